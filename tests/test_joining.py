"""Points 22.1 and 22.2: several claims about one table."""

import unittest
from itertools import product

from bluffs import bluffed, mixed_near, mixed_value, plain_join
from layerask.errors import TalkError
from layerask.joining import Join, JoinAnswerer, join_answers, mixed
from plain import GREATEST, Numbers, kept, poly_value, raised, table_value


def joined(p, points, claims, throws, polys, number):
    """The pair of the new point and claim, or the place of the first answer that does not fit."""
    join = Join(p, points, claims)
    join.throw(throws[0])
    for k, thrown in enumerate(throws[1:]):
        if not join.answer(polys[k]):
            return k
        join.throw(thrown)
    return (join.next_point, join.next_claim) if join.answer_value(number) else "end"


def samples(moduli=(3, 5, 97, GREATEST)):
    for p in moduli:
        for dims in range(4):
            for many in (1, 2, 3, 5):
                numbers = Numbers(dims * 10 + many)
                table = numbers.many(2 ** dims, p)
                points = [numbers.many(dims, p) for _ in range(many)]
                claims = [table_value(table, point, p) for point in points]
                yield p, table, points, claims, numbers.many(dims + 1, p)


class MixedTest(unittest.TestCase):
    def test_powers(self):
        for p in (2, 3, 97, GREATEST):
            for many in range(6):
                numbers = Numbers(many).many(many, p)
                for mix in (0, 1, p - 1, 5 % p):
                    self.assertEqual(mixed(numbers, mix, p), mixed_value(numbers, mix, p))

    def test_the_first_one_is_not_multiplied(self):
        self.assertEqual(mixed([5, 7, 11], 0, 97), 5)
        self.assertEqual(mixed([5, 7, 11], 2, 97), 63)


class AnswererTest(unittest.TestCase):
    def test_by_sums(self):
        for p, table, points, _, throws in samples():
            answerer = kept(self, JoinAnswerer, p, table, points)
            self.assertEqual(join_answers(answerer, throws), plain_join(p, table, points, throws))
            told = kept(self, lambda *given: join_answers(JoinAnswerer(*given[:3]), given[3]), p, table, points, throws)
            self.assertEqual(told, plain_join(p, table, points, throws))

    def test_step_by_step(self):
        table, points = [4, 9, 2, 7], [[3, 5], [1, 0]]
        polys, number = plain_join(97, table, points, [2, 3, 4])
        answerer = JoinAnswerer(97, table, points)
        table.clear()
        points[0].clear()
        self.assertIsNone(answerer.throw(2))
        for expected, thrown in zip(polys, (3, 4)):
            sent = answerer.poly()
            self.assertEqual(sent, expected)
            sent.clear()
            self.assertEqual(answerer.poly(), expected)
            answerer.throw(thrown)
        self.assertEqual(answerer.value(), number)


class JoinTest(unittest.TestCase):
    def test_honest_answers(self):
        for p, table, points, claims, throws in samples():
            polys, number = plain_join(p, table, points, throws)
            self.assertEqual(joined(p, points, claims, throws, polys, number), (throws[1:], table_value(table, throws[1:], p)))

    def test_what_comes_next(self):
        join = Join(97, [[2, 3], [4, 5]], [1, 2])
        seen = [join.wants()]
        self.assertEqual((join.next_point, join.next_claim), (None, None))
        self.assertIsNone(join.throw(10))
        claim = 21
        for _ in range(2):
            seen.append(join.wants())
            self.assertIs(join.answer([claim, 0, 5]), True)
            seen.append(join.wants())
            self.assertIsNone(join.throw(7))
            claim = poly_value([claim, 0, 5], 7, 97)
        seen.append(join.wants())
        self.assertEqual((join.next_point, join.next_claim), (None, None))
        near = mixed_near([[2, 3], [4, 5]], 10, [7, 7], 97)
        self.assertIs(join.answer_value(claim * pow(near, -1, 97) % 97), True)
        self.assertEqual(seen, ["throw", "polynomial", "throw", "polynomial", "throw", "value"])
        self.assertEqual((join.wants(), join.next_point), ("nothing", [7, 7]))

    def test_no_dimensions(self):
        """There are no rounds; the mixed nearness is the sum of the powers of the mix."""
        for mix, factor in ((0, 1), (5, 6), (96, 0)):
            join = Join(97, [[], []], [4, 4])
            join.throw(mix)
            self.assertEqual(join.wants(), "value")
            raised(self, TalkError, "step", "polynomial", join.answer, [1, 2, 3])
            self.assertIs(join.answer_value(5), factor == 0)
            if factor != 0:
                self.assertIs(join.answer_value(4), True)
            self.assertEqual((join.next_point, join.next_claim), ([], 5 if factor == 0 else 4))

    def test_one_point(self):
        """The mix has no effect on the claim."""
        for mix in (0, 5):
            polys, number = plain_join(97, [3, 8], [[6]], [mix, 9])
            self.assertEqual(joined(97, [[6]], [table_value([3, 8], [6], 97)], [mix, 9], polys, number), ([9], number))

    def test_what_does_not_fit_changes_nothing(self):
        p, table, points = 97, [4, 9, 2, 7], [[3, 5], [1, 0], [8, 8]]
        claims = [table_value(table, point, p) for point in points]
        throws = [2, 3, 4]
        polys, number = plain_join(p, table, points, throws)
        join = Join(p, points, claims)
        join.throw(2)
        for poly, thrown in zip(polys, throws[1:]):
            other = [poly[0], (poly[1] + 1) % p, poly[2]]
            for wrong in (other, poly[:2], poly + [0], [], [poly[0] - p, poly[1], poly[2]], [poly[0], poly[1], p], [True] + poly[1:], None):
                self.assertIs(join.answer(wrong), False)
                self.assertEqual(join.wants(), "polynomial")
            self.assertIs(join.answer(poly), True)
            join.throw(thrown)
        for wrong in ((number + 1) % p, number + p, number - p, -1):
            self.assertIs(join.answer_value(wrong), False)
            self.assertEqual((join.wants(), join.next_point, join.next_claim), ("value", None, None))
        self.assertIs(join.answer_value(number), True)
        self.assertEqual((join.next_point, join.next_claim), ([3, 4], number))

    def test_steps_at_a_wrong_place(self):
        p, table, points = 97, [4, 9], [[3], [1]]
        claims = [table_value(table, point, p) for point in points]
        polys, number = plain_join(p, table, points, [2, 3])
        join = Join(p, points, claims)

        def wrong(throw, polynomial, value):
            before = (join.wants(), join.next_point, join.next_claim)
            for number in (-1, p) if throw else (5, -1, p):
                raised(self, TalkError, "step", "throw", join.throw, number)
            if not polynomial:
                raised(self, TalkError, "step", "polynomial", join.answer, polys[0])
            if not value:
                raised(self, TalkError, "step", "value", join.answer_value, number)
            self.assertEqual((join.wants(), join.next_point, join.next_claim), before)

        wrong(True, False, False)
        join.throw(2)
        wrong(False, True, False)
        join.answer(polys[0])
        wrong(True, False, False)
        join.throw(3)
        wrong(False, False, True)
        join.answer_value(number)
        wrong(False, False, False)

    def test_arguments_are_kept_apart(self):
        points, claims = [[3], [1]], [1, 9]
        join = kept(self, Join, 97, points, claims)
        for held in points + [points, claims]:
            held.clear()
        join.throw(4)
        sent = [37, 0, 3]
        self.assertIs(join.answer(sent), True)
        sent.clear()
        join.throw(6)
        near = mixed_near([[3], [1]], 4, [6], 97)
        self.assertIs(join.answer_value(poly_value([37, 0, 3], 6, 97) * pow(near, -1, 97) % 97), True)
        self.assertEqual(join.next_point, [6])


class AllThrowsTest(unittest.TestCase):
    """Point 22.2."""

    def cases(self):
        for p, dims, many in ((3, 1, 1), (3, 1, 2), (3, 1, 3), (5, 1, 3), (3, 2, 2), (5, 2, 2), (3, 0, 3), (5, 0, 2)):
            numbers = Numbers(p + dims + many)
            table = numbers.many(2 ** dims, p)
            points = [numbers.many(dims, p) for _ in range(many)]
            yield p, dims, table, points, [table_value(table, point, p) for point in points]

    def test_true_claims(self):
        for p, dims, table, points, claims in self.cases():
            for throws in product(range(p), repeat=dims + 1):
                polys, number = join_answers(JoinAnswerer(p, table, points), list(throws))
                self.assertEqual(joined(p, points, claims, list(throws), polys, number), (list(throws[1:]), number))

    def test_false_claims(self):
        """The new claim is true for no more rows of throws than the degrees tell."""
        for p, dims, table, points, claims in self.cases():
            claims[-1] = (claims[-1] + 1) % p
            counts = [0] * 5
            for seed in range(5):
                for throws in product(range(p), repeat=dims + 1):
                    throws = list(throws)

                    def judge(told):
                        return joined(p, points, claims, throws, told[:-1], told[-1])

                    polys, number = join_answers(JoinAnswerer(p, table, points), throws)
                    result = judge(bluffed(judge, polys + [number], p, seed))
                    counts[seed] += result == (throws[1:], number)
                self.assertLessEqual(counts[seed] * p, p ** (dims + 1) * (len(points) - 1 + 2 * dims))
            self.assertEqual(max(counts) > 0, dims > 0 or len(points) > 1, (p, dims, counts))

    def test_a_false_claim_hides_behind_few_mixes(self):
        """With k points, the mixed claim of a false one is true for at most k - 1 mixes."""
        p, points = 7, [[2], [3], [5], [6]]
        table = [3, 1]
        claims = [table_value(table, point, p) for point in points]
        for changes in product(range(3), repeat=4):
            if any(changes):
                told = [(claim + change) % p for claim, change in zip(claims, changes)]
                hidden = [mix for mix in range(p) if mixed(told, mix, p) == mixed(claims, mix, p)]
                self.assertLessEqual(len(hidden), 3)

    def test_a_wrong_value(self):
        """In front of the last answer a false claim makes the new one false, or no value fits."""
        p, points, table = 5, [[2], [3]], [3, 1]
        claims = [table_value(table, point, p) for point in points]
        for throws in product(range(p), repeat=2):
            polys, number = plain_join(p, table, points, list(throws))
            for change in range(1, p):
                # The sent polynomial has the same values at 0 and 1, but another one at the throw.
                sent = [polys[0][0], polys[0][1], (polys[0][2] + change) % p]
                if poly_value(sent, throws[1], p) != poly_value(polys[0], throws[1], p):
                    self.assertEqual(joined(p, points, claims, list(throws), [sent], number), "end")


if __name__ == "__main__":
    unittest.main()
