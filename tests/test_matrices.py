"""Points 26.1 to 26.5: products of matrices."""

import unittest
from itertools import product

from bluffs import agreement, bluffed, counted
from layerask.errors import CircuitError, FieldError, SizeError, TalkError
from layerask.matrices import (ProductAnswerer, ProductTurn, blame_product, check_matrix, check_sizes, judge_product,
                               multiply, product_answers, product_share, product_throws, product_work, transpose)
from plain import GREATEST, Numbers, kept, poly_value, raised, table_value

SIZES = [sizes for sizes in product(range(3), repeat=3)] + [(3, 1, 2), (0, 4, 0), (1, 3, 0), (0, 0, 4)]


def plain_product(left, right, sizes, p):
    """Point 26.1."""
    a, b, c = sizes
    table = [0] * 2 ** (a + c)
    for i in range(2 ** a):
        for j in range(2 ** c):
            table[i + 2 ** a * j] = sum(left[i + 2 ** a * k] * right[k + 2 ** b * j] for k in range(2 ** b)) % p
    return table


def plain_told(left, right, sizes, point, thrown, p):
    """The honest answers, by sums over all corners."""
    a, b, _ = sizes
    row, column = point[:a], point[a:]

    def summand(t):
        return table_value(left, row + t, p) * table_value(right, t + column, p)

    polys = []
    for k in range(b):
        rests = list(product((0, 1), repeat=b - k - 1))
        polys.append([sum(summand(thrown[:k] + [t] + list(rest)) for rest in rests) % p for t in range(3)])
    return polys, [table_value(left, row + thrown, p), table_value(right, thrown + column, p)]


def sample(p, sizes, seed=1):
    a, b, c = sizes
    numbers = Numbers(seed)
    return numbers.many(2 ** (a + b), p), numbers.many(2 ** (b + c), p), numbers


class ProductsTest(unittest.TestCase):
    def test_products(self):
        for p in (2, 3, 97, GREATEST):
            for sizes in SIZES:
                left, right, _ = sample(p, sizes)
                self.assertEqual(kept(self, multiply, left, right, sizes, p), plain_product(left, right, sizes, p))

    def test_transposed(self):
        for a, b in product(range(4), repeat=2):
            table = list(range(2 ** (a + b)))
            found = kept(self, transpose, table, a, b)
            for i in range(2 ** a):
                for j in range(2 ** b):
                    self.assertEqual(found[j + 2 ** b * i], table[i + 2 ** a * j])
            self.assertEqual(transpose(found, b, a), table)

    def test_the_largest(self):
        left, right, _ = sample(GREATEST, (6, 6, 6))
        found = multiply(left, right, (6, 6, 6), GREATEST)
        for i, j in ((0, 0), (63, 0), (0, 63), (17, 40)):
            self.assertEqual(found[i + 64 * j], sum(left[i + 64 * k] * right[k + 64 * j] for k in range(64)) % GREATEST)


class ChecksTest(unittest.TestCase):
    """Point 26.2."""

    def test_sizes(self):
        for sizes in ((0, 0, 0), (12, 0, 0), (0, 12, 0), (0, 0, 12), (6, 6, 6), (11, 1, 1), (5, 7, 5)):
            self.assertIsNone(check_sizes(sizes, 3))
        for sizes in ((13, 0, 0), (0, 13, 0), (0, 0, 13), (12, 1, 0), (0, 12, 1), (12, 0, 1), (6, 6, 7), (7, 6, 6), (1, 1, 12)):
            raised(self, SizeError, "limit", "matrix", check_sizes, sizes, 3)

    def test_modulus(self):
        for p in (0, 1, 4, -3, 2147483649):
            raised(self, FieldError, "number", p, check_sizes, (13, 13, 13), p)
        raised(self, CircuitError, "part", "modulus", check_sizes, (13, 13, 13), 2)

    def test_matrices(self):
        self.assertIsNone(kept(self, check_matrix, [0, 4, 3, 1], 2, 5))
        self.assertIsNone(check_matrix([1], 0, 2))
        for table in (None, [], [1], [1, 2, 3], [1, 2, 3, 4, 0], [1, 2, 3, 5], [1, 2, 3, -1], [1, 2, 3, True], [1, 2, 3, None], (1, 2, 3, 4), 5):
            raised(self, CircuitError, "part", "matrix", check_matrix, table, 2, 5)


class TurnTest(unittest.TestCase):
    """Point 26.3."""

    def test_honest_answers(self):
        for p in (3, 5, 97, GREATEST):
            for sizes in SIZES:
                left, right, numbers = sample(p, sizes)
                a, b, c = sizes
                point, thrown = numbers.many(a + c, p), numbers.many(b, p)
                told = kept(self, lambda *given: product_answers(ProductAnswerer(*given[:5]), given[5]), p, left, right, sizes, point, thrown)
                self.assertEqual(told, plain_told(left, right, sizes, point, thrown, p))
                turn = kept(self, ProductTurn, p, sizes, point, table_value(plain_product(left, right, sizes, p), point, p))
                for poly, number in zip(told[0], thrown):
                    self.assertIs(turn.sums.accept(poly), True)
                    turn.sums.throw(number)
                self.assertEqual((turn.points, turn.claims), (None, None))
                self.assertIs(kept(self, lambda pair: turn.accept_pair(pair), told[1]), True)
                self.assertEqual((turn.points, turn.claims), ([point[:a] + thrown, thrown + point[a:]], told[1]))

    def test_the_answerer_step_by_step(self):
        left, right, numbers = sample(97, (1, 2, 1))
        point, thrown = [3, 4], [5, 6]
        polys, pair = plain_told(left, right, (1, 2, 1), point, thrown, 97)
        answerer = ProductAnswerer(97, left, right, (1, 2, 1), point)
        for held in (left, right, point):
            held.clear()
        for poly, number in zip(polys, thrown):
            answerer.poly().clear()
            self.assertEqual(answerer.poly(), poly)
            self.assertIsNone(answerer.throw(number))
        answerer.pair().clear()
        self.assertEqual(answerer.pair(), pair)

    def test_pairs_that_do_not_fit(self):
        turn = ProductTurn(97, (0, 0, 0), [], 6)
        for pair in ([], [6], [2, 3, 1], [2, 4], [2, 100], [-2, -3], [2, 3 - 97], [True, 6], None, [6, 97 + 1]):
            self.assertIs(turn.accept_pair(pair), False)
            self.assertEqual((turn.points, turn.claims), (None, None))
        pair = [2, 3]
        self.assertIs(turn.accept_pair(pair), True)
        pair.clear()
        self.assertEqual((turn.points, turn.claims), ([[], []], [2, 3]))
        # Other pairs with the same product would have fitted as well.
        self.assertIs(ProductTurn(97, (0, 0, 0), [], 6).accept_pair([12, 49]), True)

    def test_pairs_at_a_wrong_place(self):
        turn = ProductTurn(97, (1, 1, 0), [3], 6)
        raised(self, TalkError, "step", "pair", turn.accept_pair, [2, 3])
        turn.sums.accept([6, 0, 1])
        raised(self, TalkError, "step", "pair", turn.accept_pair, [2, 3])
        self.assertEqual((turn.points, turn.claims, turn.sums.throws), (None, None, []))
        turn.sums.throw(0)
        self.assertIs(turn.accept_pair([2, 3]), True)
        raised(self, TalkError, "step", "pair", turn.accept_pair, [2, 3])
        self.assertEqual((turn.points, turn.claims), ([[3, 0], [0]], [2, 3]))

    def test_degrees(self):
        turn = ProductTurn(97, (1, 3, 1), [3, 4], 6)
        for _ in range(3):
            self.assertIs(turn.sums.accept([6, 0, 1, 1]), False)
            self.assertIs(turn.sums.accept([6, 0]), False)
            self.assertIs(turn.sums.accept([6, 0, 1]), True)
            turn.sums.throw(0)
        self.assertIs(turn.sums.is_done(), True)


class TalkTest(unittest.TestCase):
    """Point 26.4."""

    def talk(self, p, sizes, seed=1):
        left, right, numbers = sample(p, sizes, seed)
        a, b, c = sizes
        throws = numbers.many(a + b + c, p)
        told = plain_told(left, right, sizes, throws[:a + c], throws[a + c:], p)
        return left, right, plain_product(left, right, sizes, p), sizes, throws, told, p

    def test_honest_ones(self):
        for p in (3, 5, 97, GREATEST):
            for sizes in SIZES:
                for seed in range(3):
                    given = self.talk(p, sizes, seed)
                    self.assertEqual(kept(self, judge_product, *given), ("believed",))
                    self.assertIsNone(kept(self, blame_product, *given))

    def test_the_largest_ones(self):
        for sizes in ((6, 6, 6), (0, 12, 0), (12, 0, 0), (4, 8, 4)):
            left, right, numbers = sample(GREATEST, sizes)
            a, b, c = sizes
            claimed = multiply(left, right, sizes, GREATEST)
            throws = numbers.many(a + b + c, GREATEST)
            told = product_answers(ProductAnswerer(GREATEST, left, right, sizes, throws[:a + c]), throws[a + c:])
            self.assertEqual(judge_product(left, right, claimed, sizes, throws, told, GREATEST), ("believed",))
            claimed[-1] = (claimed[-1] + 1) % GREATEST
            self.assertEqual(judge_product(left, right, claimed, sizes, throws, told, GREATEST)[0], "refused")

    def place(self, given, claimed=None, polys=None, pair=None):
        left, right, right_claim, sizes, throws, told, p = given
        told = (told[0] if polys is None else polys, told[1] if pair is None else pair)
        return judge_product(left, right, right_claim if claimed is None else claimed, sizes, throws, told, p)

    def test_places(self):
        given = self.talk(97, (1, 2, 1))
        polys, pair = given[5]
        self.assertEqual(self.place(given, claimed=[(given[2][0] + 1) % 97] + given[2][1:]), ("refused", 0))
        for k in range(2):
            for wrong in ([(polys[k][0] + 1) % 97] + polys[k][1:], polys[k] + [0], polys[k][:2], [97] + polys[k][1:]):
                self.assertEqual(self.place(given, polys=polys[:k] + [wrong] + polys[k + 1:]), ("refused", k))
        for wrong in ([(pair[0] + 1) % 97, pair[1]], pair[:1], pair + [1], [], [pair[0], pair[1] + 97]):
            self.assertEqual(self.place(given, pair=wrong), ("refused", "pair"))
        # Two numbers with the right product are compared with the left matrix first.
        half = [pair[0] * 2 % 97, pair[1] * 49 % 97]
        self.assertEqual(self.place(given, pair=half), ("refused", "left"))

    def test_the_right_matrix(self):
        """It is compared alone where the left value is right, which is 0."""
        left, right, sizes = [0, 0], [3, 4], (0, 1, 0)
        given = (left, right, [0], sizes, [5], ([[0, 0, 0]], [0, 8]), 97)
        self.assertEqual(judge_product(*given), ("believed",))
        self.assertEqual(self.place(given, pair=[0, 9]), ("refused", "right"))
        self.assertEqual(self.place(given, pair=[1, 0]), ("refused", "left"))

    def test_no_rounds(self):
        given = ([3], [4], [12], (0, 0, 0), [], ([], [3, 4]), 97)
        self.assertEqual(judge_product(*given), ("believed",))
        for pair, place in (([4, 3], "left"), ([1, 12], "left"), ([3, 5], "pair")):
            self.assertEqual(self.place(given, pair=pair), ("refused", place))
        self.assertEqual(self.place(given, claimed=[13]), ("refused", "pair"))

    def test_counts(self):
        for a, b, c in SIZES:
            sizes = (a, b, c)
            self.assertEqual(product_throws(sizes), a + b + c)
            self.assertEqual(product_share(sizes), a + c + 2 * b)
            self.assertEqual(product_work(sizes), 2 ** (a + b) + 2 ** (b + c) + 2 ** (a + c) + 3 * b + 2)


class ErrorsTest(unittest.TestCase):
    def wrong(self, kind, field, word, **changes):
        told = dict(left=[1, 2, 3, 4], right=[5, 6, 7, 8], claimed=[23, 34, 31, 46], sizes=(1, 1, 1), throws=[2, 3, 5],
                    told=([[33, 60, 91]], [13, 16]), p=97)
        self.assertEqual(judge_product(*told.values()), ("believed",))
        told.update(changes)
        for function in (judge_product, blame_product):
            raised(self, kind, field, word, function, *told.values())

    def test_modulus_and_sizes(self):
        nothing = dict(left=None, right=None, claimed=None, throws=[], told=None)
        self.wrong(FieldError, "number", 9, p=9, sizes=(13, 0, 0), **nothing)
        self.wrong(CircuitError, "part", "modulus", p=2, sizes=(13, 0, 0), **nothing)
        for sizes in ((13, 0, 0), (0, 12, 1), (6, 7, 6), (12, 0, 1)):
            self.wrong(SizeError, "limit", "matrix", sizes=sizes, **nothing)

    def test_matrices(self):
        for table in (None, [], [1, 2, 3], [1, 2, 3, 97], [1, 2, 3, 4] * 2):
            for name in ("left", "right", "claimed"):
                self.wrong(CircuitError, "part", "matrix", throws=[], **{name: table})
        # Each matrix has its own size.
        self.wrong(CircuitError, "part", "matrix", sizes=(0, 1, 1))
        self.wrong(CircuitError, "part", "matrix", sizes=(1, 1, 0))

    def test_throws_and_answers(self):
        for throws in ([], [2, 3], [2, 3, 5, 97]):
            self.wrong(TalkError, "step", "throws", throws=throws, told=None)
        for throws in ([97, 3, 5], [2, -1, 5], [2, 3, 97]):
            self.wrong(TalkError, "step", "throw", throws=throws, told=None)
            # They matter even if the table is refused before.
            self.wrong(TalkError, "step", "throw", throws=throws, claimed=[23, 34, 31, 47])
        for polys in ([], [[33, 60, 91]] * 2):
            self.wrong(TalkError, "step", "answers", told=(polys, [13, 16]))
            self.wrong(TalkError, "step", "answers", told=(polys, [13, 16]), claimed=[23, 34, 31, 47])


class BlameTest(unittest.TestCase):
    """Point 26.5."""

    def cases(self):
        for p, sizes in ((3, (0, 1, 0)), (3, (1, 1, 0)), (3, (0, 2, 1)), (3, (1, 1, 1)), (5, (0, 1, 1)), (5, (1, 2, 0)), (5, (0, 3, 0)), (3, (1, 0, 1))):
            left, right, numbers = sample(p, sizes, p)
            claimed = plain_product(left, right, sizes, p)
            yield p, sizes, left, right, claimed

    def test_all_throws(self):
        kinds = set()
        for p, sizes, left, right, claimed in self.cases():
            a, b, c = sizes
            wrong = claimed[:-1] + [(claimed[-1] + 1) % p]

            def talk(throws, seed):
                honest = product_answers(ProductAnswerer(p, left, right, sizes, throws[:a + c]), throws[a + c:])
                self.assertEqual(judge_product(left, right, claimed, sizes, throws, honest, p), ("believed",))

                def judged(told):
                    return judge_product(left, right, wrong, sizes, throws, (told[:-1], told[-1]), p)

                told = bluffed(judged, honest[0] + [honest[1]], p, seed)
                told = (told[:-1], told[-1])
                result = judge_product(left, right, wrong, sizes, throws, told, p)
                place = blame_product(left, right, wrong, sizes, throws, told, p)
                if result == ("believed",):
                    self.assertEqual(place, self.plain_place(claimed, wrong, sizes, throws, told, honest, p))
                return result, place

            kinds |= set(counted(self, p, a + b + c, a + c + 2 * b, talk))
        self.assertLessEqual({("claim",), ("round", 0), ("round", 1)}, kinds)

    def plain_place(self, claimed, wrong, sizes, throws, told, honest, p):
        a, b, c = sizes
        if table_value(claimed, throws[:a + c], p) == table_value(wrong, throws[:a + c], p):
            return ("claim",)
        for k in range(b):
            if agreement(told[0][k], honest[0][k], throws[a + c + k], p):
                return ("round", k)
        return "no place"

    def test_a_true_table_has_no_blame(self):
        p, sizes, left, right, claimed = next(self.cases())
        for throws in product(range(p), repeat=1):
            for poly in product(range(p), repeat=3):
                for pair in product(range(p), repeat=2):
                    told = ([list(poly)], list(pair))
                    self.assertIsNone(blame_product(left, right, claimed, sizes, list(throws), told, p))

    def test_every_answer(self):
        """For one round, whatever is sent: a false number is believed just where there is a blame."""
        p, sizes, left, right = 3, (0, 1, 0), [1, 2], [2, 2]
        for number in range(p):
            for throw in range(p):
                honest = product_answers(ProductAnswerer(p, left, right, sizes, []), [throw])
                for poly in product(range(p), repeat=3):
                    for pair in product(range(p), repeat=2):
                        told = ([list(poly)], list(pair))
                        result = judge_product(left, right, [number], sizes, [throw], told, p)
                        fits = (poly[0] + poly[1] - number) % p == 0 and pair[0] * pair[1] % p == poly_value(poly, throw, p)
                        self.assertEqual(result == ("believed",), fits and list(pair) == honest[1])
                        place = blame_product(left, right, [number], sizes, [throw], told, p)
                        believed = result == ("believed",) and number != 0
                        self.assertEqual(place, ("round", 0) if believed else None)


if __name__ == "__main__":
    unittest.main()
