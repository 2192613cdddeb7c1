"""Points 5.1 to 5.3: sums over corners."""

import unittest
from itertools import product

from layerask.errors import TalkError
from layerask.sums import SumAsker, fold_terms, honest, total
from plain import GREATEST, Numbers, corner, kept, poly_value, raised, table_value


def sample_terms(numbers, dims, p):
    return [[numbers.many(2 ** dims, p) for _ in range(1 + numbers.below(3))] for _ in range(1 + numbers.below(3))]


def term_value(terms, point, p):
    result = 0
    for tables in terms:
        entry = 1
        for table in tables:
            entry = entry * table_value(table, point, p) % p
        result += entry
    return result % p


def state(asker):
    return (asker.claim, asker.throws, asker.is_done())


class TermsTest(unittest.TestCase):
    def test_total(self):
        numbers = Numbers(1)
        for p in (2, 7, GREATEST):
            for dims in range(4):
                terms = sample_terms(numbers, dims, p)
                expected = sum(term_value(terms, corner(k, dims), p) for k in range(2 ** dims)) % p
                self.assertEqual(kept(self, total, terms, p), expected)

    def test_fold_terms(self):
        numbers = Numbers(2)
        for p in (2, 7, GREATEST):
            for dims in range(1, 4):
                terms = sample_terms(numbers, dims, p)
                number = numbers.below(p)
                found = kept(self, fold_terms, terms, number, p)
                self.assertEqual([len(tables) for tables in found], [len(tables) for tables in terms])
                for tables, others in zip(found, terms):
                    for table, other in zip(tables, others):
                        point = numbers.many(dims - 1, p)
                        self.assertEqual(table_value(table, point, p), table_value(other, [number] + point, p))

    def test_honest(self):
        numbers = Numbers(3)
        for p in (5, 97, GREATEST):
            for dims in range(1, 4):
                terms = sample_terms(numbers, dims, p)
                for degree in (0, 2, 3):
                    expected = []
                    for t in range(degree + 1):
                        rests = product((0, 1), repeat=dims - 1)
                        expected.append(sum(term_value(terms, [t] + list(rest), p) for rest in rests) % p)
                    self.assertEqual(kept(self, honest, terms, degree, p), expected)


class AskerTest(unittest.TestCase):
    def test_whole_claims(self):
        numbers = Numbers(4)
        for p in (5, GREATEST):
            for dims in range(4):
                terms = sample_terms(numbers, dims, p)
                asker = SumAsker(p, total(terms, p), [3] * dims)
                for _ in range(dims):
                    self.assertIs(asker.is_done(), False)
                    self.assertIs(kept(self, asker.accept, honest(terms, 3, p)), True)
                    number = numbers.below(p)
                    self.assertIs(asker.is_done(), False)
                    self.assertIsNone(asker.throw(number))
                    terms = fold_terms(terms, number, p)
                    self.assertEqual(asker.claim, total(terms, p))
                    self.assertEqual(asker.throws[-1], number)
                self.assertIs(asker.is_done(), True)
                self.assertEqual(asker.claim, term_value(terms, [], p))

    def test_what_fits(self):
        asker = SumAsker(7, 4, [2, 1])
        for values in ([], [4], [1, 3], [1, 3, 0, 0], [1, 3, 7], [1, 3, -1], [8, 3, 0], [1, 2, 0], [4, 7, 0]):
            self.assertIs(kept(self, asker.accept, values), False, values)
            self.assertEqual(state(asker), (4, [], False))
        self.assertIs(asker.accept([6, 5, 6]), True)
        asker.throw(3)
        self.assertEqual((asker.claim, asker.throws), (poly_value([6, 5, 6], 3, 7), [3]))
        self.assertIs(asker.accept([0, asker.claim, 0]), False)
        self.assertIs(asker.accept([0, asker.claim]), True)
        asker.throw(1)
        self.assertEqual(asker.throws, [3, 1])

    def test_constants(self):
        asker = SumAsker(7, 3, [0])
        self.assertIs(asker.accept([3]), False)
        self.assertIs(asker.accept([5]), True)
        asker.throw(6)
        self.assertEqual(state(asker), (5, [6], True))

    def test_no_rounds(self):
        asker = SumAsker(2, 1, [])
        self.assertEqual(state(asker), (1, [], True))
        raised(self, TalkError, "step", "polynomial", asker.accept, [1, 0])
        raised(self, TalkError, "step", "throw", asker.throw, 1)
        self.assertEqual(state(asker), (1, [], True))

    def test_wrong_places(self):
        asker = SumAsker(7, 4, [1, 1])
        raised(self, TalkError, "step", "throw", asker.throw, 3)
        self.assertIs(asker.accept([0, 0]), False)
        raised(self, TalkError, "step", "throw", asker.throw, 3)
        self.assertEqual(state(asker), (4, [], False))
        self.assertIs(asker.accept([1, 3]), True)
        raised(self, TalkError, "step", "polynomial", asker.accept, [3, 1])
        raised(self, TalkError, "step", "polynomial", asker.accept, [0])
        self.assertEqual(state(asker), (4, [], False))
        asker.throw(2)
        self.assertEqual(asker.claim, 5)
        raised(self, TalkError, "step", "throw", asker.throw, 2)
        self.assertEqual(state(asker), (5, [2], False))
        asker.accept([5, 0])
        asker.throw(0)
        raised(self, TalkError, "step", "polynomial", asker.accept, [5, 0])
        raised(self, TalkError, "step", "throw", asker.throw, 2)
        self.assertEqual(state(asker), (5, [2, 0], True))

    def test_nothing_is_shared(self):
        degrees, values = [1, 1], [1, 3]
        asker = SumAsker(7, 4, degrees)
        asker.accept(values)
        values[0] = 6
        degrees[1] = 5
        asker.throw(0)
        self.assertEqual(asker.claim, 1)
        self.assertIs(asker.accept([0, 1]), True)
        thrown = asker.throws
        asker.throw(4)
        self.assertEqual(thrown, [0])

    def test_a_false_claim_stays_false_but_at_common_points(self):
        p = 7
        terms = [[[1, 2, 3, 4], [5, 6, 0, 1]]]
        right = total(terms, p)
        for sent in product(range(p), repeat=3):
            asker = SumAsker(p, (right + 1) % p, [2, 2])
            if asker.accept(list(sent)):
                true = honest(terms, 2, p)
                self.assertNotEqual(list(sent), true)
                held = []
                for number in range(p):
                    again = SumAsker(p, (right + 1) % p, [2, 2])
                    again.accept(list(sent))
                    again.throw(number)
                    if again.claim == total(fold_terms(terms, number, p), p):
                        held.append(number)
                expected = [t for t in range(p) if poly_value(sent, t, p) == poly_value(true, t, p)]
                self.assertEqual(held, expected)
                self.assertLessEqual(len(held), 2)


if __name__ == "__main__":
    unittest.main()
