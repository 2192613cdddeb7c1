"""Points 0.3 and 4.1 to 4.3: tables over corners."""

import unittest

from layerask.cubes import between, fold, line_values, nearness, point_table, value_at
from plain import GREATEST, Numbers, corner, kept, near, point_between, poly_value, table_value


class ValueTest(unittest.TestCase):
    def test_against_all_corners(self):
        numbers = Numbers(1)
        for p in (2, 3, 97, GREATEST):
            for dims in range(5):
                table = numbers.many(2 ** dims, p)
                point = numbers.many(dims, p)
                self.assertEqual(kept(self, value_at, table, point, p), table_value(table, point, p))

    def test_corners_have_the_lowest_bit_first(self):
        table = [10, 11, 12, 13, 14, 15, 16, 17]
        self.assertEqual([value_at(table, corner(k, 3), 97) for k in range(8)], table)
        self.assertEqual(value_at(table, [1, 0, 0], 97), 11)
        self.assertEqual(value_at(table, [0, 0, 1], 97), 14)

    def test_no_dimensions(self):
        self.assertEqual(value_at([5], [], 7), 5)

    def test_degree_one_in_each_variable(self):
        p = 97
        numbers = Numbers(2)
        table = numbers.many(8, p)
        for at in range(3):
            point = numbers.many(3, p)
            found = [value_at(table, point[:at] + [t] + point[at + 1:], p) for t in range(5)]
            steps = [(right - left) % p for left, right in zip(found, found[1:])]
            self.assertEqual(len(set(steps)), 1)


class NearnessTest(unittest.TestCase):
    def test_table(self):
        numbers = Numbers(3)
        for p in (2, 5, GREATEST):
            for dims in range(5):
                point = numbers.many(dims, p)
                expected = [near(point, corner(k, dims), p) for k in range(2 ** dims)]
                self.assertEqual(kept(self, point_table, point, p), expected)

    def test_two_points(self):
        numbers = Numbers(4)
        for p in (2, 5, GREATEST):
            for dims in range(5):
                point, other = numbers.many(dims, p), numbers.many(dims, p)
                found = kept(self, nearness, point, other, p)
                self.assertEqual(found, table_value(point_table(point, p), other, p))
                self.assertEqual(found, nearness(other, point, p))

    def test_no_dimensions(self):
        self.assertEqual(point_table([], 7), [1])
        self.assertEqual(nearness([], [], 7), 1)


class FoldTest(unittest.TestCase):
    def test_first_variable(self):
        numbers = Numbers(5)
        for p in (2, 3, GREATEST):
            for dims in range(1, 5):
                table = numbers.many(2 ** dims, p)
                number = numbers.below(p)
                found = kept(self, fold, table, number, p)
                self.assertEqual(len(found), 2 ** (dims - 1))
                for k, entry in enumerate(found):
                    self.assertEqual(entry, (table[2 * k] + number * (table[2 * k + 1] - table[2 * k])) % p)
                point = numbers.many(dims - 1, p)
                self.assertEqual(value_at(found, point, p), value_at(table, [number] + point, p))

    def test_one_dimension(self):
        self.assertEqual(fold([3, 5], 0, 7), [3])
        self.assertEqual(fold([3, 5], 1, 7), [5])
        self.assertEqual(fold([3, 5], 6, 7), [1])


class LineTest(unittest.TestCase):
    def test_points(self):
        for p in (2, 97, GREATEST):
            point, other = Numbers(6).many(4, p), Numbers(7).many(4, p)
            self.assertEqual(kept(self, between, point, other, 0, p), point)
            self.assertEqual(kept(self, between, point, other, 1, p), other)
            self.assertEqual(between(point, other, p - 1, p), point_between(point, other, p - 1, p))
        self.assertEqual(between([2, 3], [4, 3], 5, 97), [12, 3])
        self.assertEqual(between([], [], 5, 97), [])

    def test_values(self):
        numbers = Numbers(8)
        for p, most in ((2, 1), (3, 2), (5, 4), (GREATEST, 4)):
            for dims in range(most + 1):
                table = numbers.many(2 ** dims, p)
                point, other = numbers.many(dims, p), numbers.many(dims, p)
                found = kept(self, line_values, table, point, other, p)
                expected = [table_value(table, point_between(point, other, t, p), p) for t in range(dims + 1)]
                self.assertEqual(found, expected)

    def test_degree_on_the_line(self):
        p = 97
        numbers = Numbers(9)
        for dims in range(5):
            table = numbers.many(2 ** dims, p)
            point, other = numbers.many(dims, p), numbers.many(dims, p)
            values = line_values(table, point, other, p)
            for t in (0, 1, 7, 50, 96):
                self.assertEqual(poly_value(values, t, p), value_at(table, between(point, other, t, p), p))


if __name__ == "__main__":
    unittest.main()
