"""Points 24.1 to 24.6: rows in any order."""

import unittest
from itertools import combinations_with_replacement, permutations, product

from layerask.bags import among, bag_blame, in_order, mark, most_same, product as marks_product, same_bag, sorted_claim
from plain import GREATEST, Numbers, kept, lists_in


def plain_mark(row, s, p):
    return sum(number * s ** k for k, number in enumerate(row)) % p


def plain_product(rows, s, t, p):
    result = 1
    for row in rows:
        result *= t - plain_mark(row, s, p)
    return result % p


def same_rows(rows, others):
    return sorted(rows) == sorted(others)


def plain_blame(rows, others, s, t, p):
    """Point 24.4, for lists that do not hold the same rows and are believed to."""
    here = sorted(plain_mark(row, s, p) for row in rows)
    if here != sorted(plain_mark(row, s, p) for row in others):
        return ("point", t)
    for row in rows:
        for other in others:
            if rows.count(row) > others.count(row) and other != row and plain_mark(row, s, p) == plain_mark(other, s, p):
                return ("rows", row, other)
    return "no place"


def sample_lists(p, seed):
    """Two lists of rows that are often the same rows in another order."""
    numbers = Numbers(seed)
    width, many = 1 + numbers.below(4), numbers.below(6)
    rows = [numbers.many(width, p) for _ in range(many)]
    rows += [list(row) for row in rows[:numbers.below(3)]]
    others = [list(row) for row in rows]
    for at in range(len(others) - 1, 0, -1):
        other = numbers.below(at + 1)
        others[at], others[other] = others[other], others[at]
    return rows, others, width, numbers


class MarkTest(unittest.TestCase):
    def test_marks(self):
        for p in (2, 3, 97, GREATEST):
            for width in range(1, 6):
                numbers = Numbers(width)
                row = numbers.many(width, p)
                for s in (0, 1, p - 1, numbers.below(p)):
                    self.assertEqual(kept(self, mark, row, s, p), plain_mark(row, s, p))
        self.assertEqual([mark([4, 5, 6], 0, 97), mark([4, 5, 6], 1, 97), mark([4], 50, 97)], [4, 15, 4])

    def test_products(self):
        for p in (2, 3, 97, GREATEST):
            for seed in range(20):
                rows, _, _, numbers = sample_lists(p, seed)
                s, t = numbers.many(2, p)
                self.assertEqual(kept(self, marks_product, rows, s, t, p), plain_product(rows, s, t, p))
        for p in (2, 97):
            self.assertEqual(marks_product([], 1, 0, p), 1)


class SameTest(unittest.TestCase):
    """Points 24.1 and 24.2."""

    def test_the_same_rows_at_all_throws(self):
        for p in (2, 3, 5):
            for rows in product(product(range(min(p, 2)), repeat=2), repeat=3):
                rows = [list(row) for row in rows]
                for others in permutations(rows):
                    for s, t in product(range(p), repeat=2):
                        self.assertIs(kept(self, same_bag, rows, list(others), s, t, p), True)

    def test_samples(self):
        for p in (2, 3, 97, GREATEST):
            for seed in range(40):
                rows, others, _, numbers = sample_lists(p, seed)
                s, t = numbers.many(2, p)
                self.assertIs(same_bag(rows, others, s, t, p), True)
                self.assertIsNone(kept(self, bag_blame, rows, others, s, t, p))
                if rows:
                    others[0][0] = (others[0][0] + 1) % p
                    expected = plain_product(rows, s, t, p) == plain_product(others, s, t, p)
                    self.assertIs(same_bag(rows, others, s, t, p), expected)

    def test_other_lengths(self):
        """Also where the products are the same: of no rows, and of rows whose difference from t is 1."""
        self.assertIs(same_bag([], [], 3, 4, 97), True)
        for t in range(97):
            self.assertIs(same_bag([], [[5]], 1, t, 97), False)
            self.assertIs(same_bag([[5], [5]], [[5]], 1, t, 97), False)
        self.assertEqual(marks_product([[5]], 1, 6, 97), 1)
        self.assertIsNone(bag_blame([], [[5]], 1, 6, 97))
        self.assertIsNone(bag_blame([], [], 1, 6, 97))

    def test_rows_that_come_again(self):
        """Equally often, not only both at all."""
        rows, others = [[1, 2], [1, 2], [3, 4]], [[1, 2], [3, 4], [3, 4]]
        believed = [(s, t) for s in range(97) for t in range(97) if same_bag(rows, others, s, t, 97)]
        # The marks are the same for one s; otherwise t must be a mark.
        self.assertEqual(believed, [(s, t) for s in range(97) for t in range(97) if s == 96 or t in (plain_mark([1, 2], s, 97), plain_mark([3, 4], s, 97))])
        self.assertIs(same_bag(rows, [[3, 4], [1, 2], [1, 2]], 96, 5, 97), True)


class CountTest(unittest.TestCase):
    """Points 24.2 to 24.4: false claims over all pairs of throws."""

    def test_all_pairs_of_throws(self):
        kinds = set()
        for p, width, many in ((2, 1, 2), (3, 1, 3), (5, 1, 2), (3, 2, 2), (5, 2, 2), (5, 3, 1), (2, 2, 3)):
            everything = [list(row) for row in product(range(p), repeat=width)]
            lists = [list(rows) for rows in combinations_with_replacement(everything, many)]
            step = max(1, len(lists) ** 2 // 700)
            for at in range(0, len(lists) ** 2, step):
                rows, others = lists[at // len(lists)], lists[at % len(lists)]
                believed = 0
                for s, t in product(range(p), repeat=2):
                    result, place = same_bag(rows, others, s, t, p), bag_blame(rows, others, s, t, p)
                    if same_rows(rows, others):
                        self.assertEqual((result, place), (True, None))
                    elif result:
                        self.assertEqual(place, plain_blame(rows, others, s, t, p))
                        kinds.add(place[0])
                        believed += 1
                    else:
                        self.assertIsNone(place)
                self.assertLessEqual(believed, min(p * p, p * many * width))
        self.assertEqual(kinds, {"point", "rows"})

    def test_told_numbers(self):
        for p in (2, 3, 97, GREATEST):
            for many in (0, 1, 2, 50, 1000):
                for width in (1, 2, 9):
                    self.assertEqual(most_same(many, width, p), min(p * p, p * many * width))

    def test_the_rows_of_the_blame(self):
        # For s = 1 the mark is the sum.
        self.assertEqual(bag_blame([[0, 0], [1, 2]], [[0, 0], [3, 0]], 1, 5, 97), ("rows", [1, 2], [3, 0]))
        # The first row that is there more often, and the first other row with its mark; both are in both lists here.
        rows, others = [[3, 0], [2, 1], [1, 2], [1, 2]], [[1, 2], [0, 3], [2, 1], [3, 0]]
        self.assertEqual(bag_blame(rows, others, 1, 5, 97), ("rows", [1, 2], [0, 3]))
        rows, others = [[1, 2], [1, 2], [3, 0]], [[3, 0], [1, 2], [3, 0]]
        self.assertEqual(kept(self, bag_blame, rows, others, 1, 5, 97), ("rows", [1, 2], [3, 0]))
        found = bag_blame(rows, others, 1, 5, 97)
        self.assertFalse([row for row in lists_in(found) if any(row is other for other in rows + others)])

    def test_the_point(self):
        # Of [1] and [2] against [3] and [0] with s in no role: the products agree nowhere or at one t.
        places = {t: bag_blame([[1], [2]], [[3], [4]], 0, t, 7) for t in range(7)}
        self.assertEqual({t for t in places if places[t]}, {t for t in range(7) if (t - 1) * (t - 2) % 7 == (t - 3) * (t - 4) % 7})
        self.assertEqual({place for place in places.values() if place}, {("point", t) for t in places if places[t]})


class AmongTest(unittest.TestCase):
    """Point 24.5."""

    def test_true_claims(self):
        for p in (2, 3, 97, GREATEST):
            for seed in range(30):
                _, table, _, numbers = sample_lists(p, seed)
                counts = [numbers.below(4) for _ in table]
                rows = [row for row, count in zip(table, counts) for _ in range(count)][::-1]
                for _ in range(4):
                    s, t = numbers.many(2, p)
                    self.assertIs(kept(self, among, rows, table, counts, s, t, p), True)

    def test_it_is_the_claim_about_the_longer_list(self):
        p, table = 5, [[1, 2], [0, 3], [1, 2]]
        for counts in product(range(3), repeat=3):
            longer = [row for row, count in zip(table, counts) for _ in range(count)]
            for rows in ([], [[1, 2]], [[1, 2], [0, 3]], [[2, 1], [0, 3]], [[1, 2], [1, 2], [0, 3], [0, 3]]):
                for s, t in product(range(p), repeat=2):
                    self.assertIs(among(rows, table, list(counts), s, t, p), same_bag(rows, longer, s, t, p))

    def test_other_numbers_of_counts(self):
        for counts in ([], [1], [1, 1, 0]):
            self.assertIs(among([[5], [6]], [[5], [6]], counts, 3, 4, 97), False)
        for counts in ([1, 0], [2, 1], [0, 0]):
            self.assertIs(among([[5], [6]], [[5], [6]], counts, 3, 4, 97), False)
        self.assertIs(among([], [], [], 3, 4, 97), True)
        self.assertIs(among([], [[5]], [0], 3, 4, 97), True)
        self.assertIs(among([], [[5]], [1], 3, 4, 97), False)

    def test_large_counts(self):
        self.assertIs(among([[5]] * 1000 + [[6]] * 24, [[6], [5]], [24, 1000], 3, 4, GREATEST), True)
        self.assertIs(among([[5]] * 1000 + [[6]] * 24, [[6], [5]], [25, 999], 3, 4, GREATEST), False)
        # A row that is not counted does not matter, even where t is its mark.
        self.assertIs(among([[5]], [[4], [5]], [0, 1], 3, 4, 97), True)


class OrderTest(unittest.TestCase):
    """Point 24.6."""

    def test_in_order(self):
        for rows in ([], [[5]], [[1], [1]], [[1, 2], [1, 2], [1, 3], [2, 0]], [[0, 9], [1, 0]]):
            self.assertIs(kept(self, in_order, rows), True)
        for rows in ([[2], [1]], [[1, 3], [1, 2]], [[1], [2], [1]], [[0, 1, 2], [0, 2, 0], [0, 1, 9]], [[10], [9]]):
            self.assertIs(in_order(rows), False)

    def test_all_small_lists(self):
        for rows in product(product(range(2), repeat=2), repeat=3):
            rows = [list(row) for row in rows]
            self.assertIs(in_order(rows), rows == sorted(rows))

    def test_sorted_claims(self):
        for p in (2, 3, 97, GREATEST):
            for seed in range(30):
                rows, others, _, numbers = sample_lists(p, seed)
                s, t = numbers.many(2, p)
                self.assertIs(kept(self, sorted_claim, rows, sorted(others), s, t, p), True)
                self.assertIs(sorted_claim(rows, others, s, t, p), others == sorted(others))
                if rows:
                    self.assertIs(sorted_claim(rows, sorted(others)[1:], s, t, p), False)

    def test_other_rows_in_order(self):
        """They are believed just where the bag is, and then there is a blame."""
        rows, outputs = [[2, 0], [0, 1]], [[0, 1], [1, 1]]
        for s, t in product(range(5), repeat=2):
            believed = sorted_claim(rows, outputs, s, t, 5)
            self.assertIs(believed, same_bag(rows, outputs, s, t, 5))
            self.assertEqual(bag_blame(rows, outputs, s, t, 5) is not None, believed)


if __name__ == "__main__":
    unittest.main()
