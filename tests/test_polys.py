"""Points 3.1 and 3.2: polynomials in one variable."""

import unittest
from itertools import product

from layerask.polys import common, corners, degree, same, value
from plain import GREATEST, Numbers, kept, poly_value


def horner(coefficients, t, p):
    result = 0
    for entry in reversed(coefficients):
        result = (result * t + entry) % p
    return result


def values_of(coefficients, many, p):
    return [horner(coefficients, t, p) for t in range(many)]


class ValueTest(unittest.TestCase):
    def test_against_coefficients(self):
        numbers = Numbers(1)
        for p in (2, 3, 5, 97, GREATEST):
            for many in range(1, min(p, 12) + 1):
                coefficients = numbers.many(many, p)
                values = values_of(coefficients, many, p)
                for t in list(range(min(p, 15))) + [p - 1, p - 2, p // 2]:
                    self.assertEqual(kept(self, value, values, t, p), horner(coefficients, t, p))

    def test_as_many_values_as_numbers(self):
        for p in (2, 3, 5, 7):
            values = Numbers(p).many(p, p)
            self.assertEqual([value(values, t, p) for t in range(p)], values)

    def test_a_long_list(self):
        values = Numbers(2).many(300, GREATEST)
        self.assertEqual(value(values, 12345678, GREATEST), poly_value(values, 12345678, GREATEST))
        self.assertEqual(value(values, 299, GREATEST), values[299])

    def test_every_list_tells_another_polynomial(self):
        p = 3
        told = {tuple(value(list(values), t, p) for t in range(p)) for values in product(range(p), repeat=3)}
        self.assertEqual(len(told), 27)


class CornersTest(unittest.TestCase):
    def test_sum_of_both_values(self):
        self.assertEqual(kept(self, corners, [5, 6, 1, 2], 7), 4)
        self.assertEqual(corners([5, 1], 7), 6)
        self.assertEqual(corners([GREATEST - 1, GREATEST - 1], GREATEST), GREATEST - 2)

    def test_constants(self):
        self.assertEqual(kept(self, corners, [5], 7), 3)
        self.assertEqual(corners([1], 2), 0)


class DegreeTest(unittest.TestCase):
    def test_against_coefficients(self):
        for p in (2, 3, 5):
            for coefficients in product(range(p), repeat=min(p, 4)):
                values = values_of(coefficients, len(coefficients), p)
                expected = max([k for k, entry in enumerate(coefficients) if entry], default=-1)
                self.assertEqual(kept(self, degree, values, p), expected)

    def test_zero_and_constants(self):
        for p in (2, GREATEST):
            self.assertEqual([degree([0], p), degree([0, 0], p), degree([1], p), degree([1, 1], p)], [-1, -1, 0, 0])

    def test_great_modulus(self):
        self.assertEqual(degree(values_of([4, 0, 0, 0, 9, 0], 6, GREATEST), GREATEST), 4)
        self.assertEqual(degree(values_of([4, 0, 0, 0, 9, 1], 6, GREATEST), GREATEST), 5)


class SameTest(unittest.TestCase):
    def test_all_of_modulus_three(self):
        p = 3
        lists = [list(entries) for many in (1, 2, 3) for entries in product(range(p), repeat=many)]
        for values in lists:
            for others in lists:
                expected = all(poly_value(values, t, p) == poly_value(others, t, p) for t in range(p))
                self.assertIs(kept(self, same, values, others, p), expected)

    def test_lengths(self):
        self.assertIs(same([0, 1, 4], [0, 1, 4, 9, 16], 97), True)
        self.assertIs(same([0, 1, 4, 9, 16], [0, 1, 4], 97), True)
        self.assertIs(same([0, 1, 4], [0, 1, 4, 9, 17], 97), False)
        self.assertIs(same([0, 1, 4], [0, 1], 97), False)
        self.assertIs(same([5], [5, 5, 5], GREATEST), True)
        self.assertIs(same([0], [0, 0], 2), True)


class CommonTest(unittest.TestCase):
    def test_against_all_numbers(self):
        numbers = Numbers(3)
        for p in (2, 3, 5, 7, 97):
            for _ in range(40):
                values = numbers.many(1 + numbers.below(min(p, 6)), p)
                others = numbers.many(1 + numbers.below(min(p, 6)), p)
                expected = [t for t in range(p) if poly_value(values, t, p) == poly_value(others, t, p)]
                self.assertEqual(kept(self, common, values, others, p), expected)

    def test_the_same_polynomial(self):
        self.assertEqual(common([0, 1, 4], [0, 1, 4, 9], 11), list(range(11)))
        self.assertEqual(common([1], [1, 1], 2), [0, 1])

    def test_no_more_than_the_degree(self):
        p = 5
        lists = [list(entries) for entries in product(range(p), repeat=3)]
        most = 0
        for values in lists:
            for others in lists[::7]:
                if values != others:
                    found = len(common(values, others, p))
                    self.assertLessEqual(found, 2)
                    most = max(most, found)
        self.assertEqual(most, 2)

    def test_greatest_modulus_for_it(self):
        p = 65521
        roots = [3, 40000, 65520]
        values = [(t - 3) * (t - 40000) * (t - 65520) % p for t in range(4)]
        self.assertEqual(common(values, [0], p), roots)


if __name__ == "__main__":
    unittest.main()
