"""Points 26.6 to 26.10: powers of matrices, and closed walks."""

import unittest
from copy import deepcopy
from itertools import combinations, product

from bluffs import agreement, bluffed, counted, mixed_value, plain_join
from layerask.errors import CircuitError, FieldError, SizeError, TalkError
from layerask.walks import (blame_closed, blame_walk, closed_answers, closed_share, closed_throws, closed_walks, judge_closed,
                            judge_walk, power, steps_of, walk_answers, walk_share, walk_throws)
from plain import GREATEST, Numbers, corner, kept, raised, table_value, unshared
from test_matrices import plain_product, plain_told

EXPONENTS = (1, 2, 3, 4, 5, 6, 7, 8, 11, 13, 16)


def plain_power(table, bits, exponent, p):
    """The walks, counted one step after the other."""
    found = table
    for _ in range(exponent - 1):
        found = plain_product(found, table, (bits, bits, bits), p)
    return found


def plain_steps(exponent):
    return [word for digit in bin(exponent)[3:] for word in (["square", "times"] if digit == "1" else ["square"])]


class PlainWalk:
    """The honest conversation of points 26.7 and 26.8."""

    def __init__(self, table, bits, exponent, claim, throws, p):
        self.table, self.bits, self.p, self.left = table, bits, p, list(throws)
        self.sizes = (bits, bits, bits)
        self.told, self.kept = [], []
        # All places with what is honest there and the throw, in their order.
        self.places = []
        self.point = self.take(2 * bits) if claim[0] == "table" else corner(claim[1], bits) + corner(claim[2], bits)
        self.first = list(self.point)
        exponents = [1]
        for word in plain_steps(exponent):
            exponents.append(exponents[-1] * 2 if word == "square" else exponents[-1] + 1)
        for j, word in enumerate(reversed(plain_steps(exponent))):
            self.step(j, word, plain_power(table, bits, exponents[-2 - j], p))
        self.last = self.joining(table, self.kept + [self.point], "last") if self.kept else None

    def take(self, many):
        found = [self.left.pop(0) for _ in range(many)]
        return found

    def step(self, j, word, before):
        a, p = self.bits, self.p
        thrown = self.take(a)
        polys, pair = plain_told(before, before if word == "square" else self.table, self.sizes, self.point, thrown, p)
        self.places += [(("round", j, k), poly, thrown[k]) for k, poly in enumerate(polys)]
        points = [self.point[:a] + thrown, thrown + self.point[a:]]
        if word == "times":
            self.told.append((polys, pair))
            self.kept.append(points[1])
            self.point = points[0]
        else:
            self.told.append((polys, pair, self.joining(before, points, j)))

    def joining(self, table, points, place):
        thrown = self.take(1 + 2 * self.bits)
        polys, number = plain_join(self.p, table, points, thrown)
        self.places.append((("mix", place), [table_value(table, point, self.p) for point in points], thrown[0]))
        self.places += [(("join", place, k), poly, thrown[1 + k]) for k, poly in enumerate(polys)]
        self.point = thrown[1:]
        return polys, number


def flat(told):
    found = []
    for step in told[0] + ([told[1]] if told[1] else []):
        found += step[0] + [step[1]]
        if len(step) == 3:
            found += step[2][0] + [step[2][1]]
    return found


def shaped(list_of_answers, like):
    left = list(list_of_answers)

    def pair(held):
        return [left.pop(0) for _ in held[0]], left.pop(0)

    steps = [pair(step) + ((pair(step[2]),) if len(step) == 3 else ()) for step in like[0]]
    return steps, (pair(like[1]) if like[1] else None)


def plain_place(talk, claim, told, table, exponent):
    """Point 26.9, for a false claim that is believed: the first place, from what was sent."""
    p, bits = talk.p, talk.bits
    if claim[0] == "table":
        right = plain_power(table, bits, exponent, p)
        if table_value(claim[1], talk.first, p) == table_value(right, talk.first, p):
            return ("claim",)
    # What was sent at each place; the claims in front of a mix are values that were sent.
    steps, number = told[0], None
    sent, kept_claims = {}, []
    for j, step in enumerate(steps):
        sent.update({("round", j, k): poly for k, poly in enumerate(step[0])})
        if len(step) == 3:
            sent[("mix", j)] = step[1]
            sent.update({("join", j, k): poly for k, poly in enumerate(step[2][0])})
            number = step[2][1]
        else:
            number = step[1][0]
            kept_claims.append(step[1][1])
    if told[1]:
        sent[("mix", "last")] = kept_claims + [number]
        sent.update({("join", "last", k): poly for k, poly in enumerate(told[1][0])})
    for place, honest, thrown in talk.places:
        if place[0] == "mix":
            if sent[place] != honest and mixed_value(sent[place], thrown, p) == mixed_value(honest, thrown, p):
                return place
        elif agreement(sent[place], honest, thrown, p):
            return place
    return "no place"


def sample(p, bits, exponent, whole, seed=1):
    numbers = Numbers(seed + exponent)
    table = numbers.many(4 ** bits, p)
    right = plain_power(table, bits, exponent, p)
    i, j = numbers.many(2, 2 ** bits)
    claim = ("table", right) if whole else ("entry", i, j, right[i + 2 ** bits * j])
    return table, claim, numbers.many(walk_throws(bits, exponent, whole), p)


def samples(moduli=(3, 5, 97, GREATEST), exponents=EXPONENTS, bits=(0, 1, 2)):
    for p in moduli:
        for exponent in exponents:
            for a in bits:
                for whole in (True, False):
                    yield (p, a, exponent) + sample(p, a, exponent, whole)


class PowerTest(unittest.TestCase):
    """Point 26.6."""

    def test_steps(self):
        self.assertEqual([steps_of(exponent) for exponent in (1, 2, 3, 4)], [[], ["square"], ["square", "times"], ["square", "square"]])
        for exponent in list(range(1, 300)) + [65535, 65534, 32768]:
            self.assertEqual(steps_of(exponent), plain_steps(exponent))
        self.assertEqual(len(steps_of(65535)), 30)

    def test_powers(self):
        for p in (2, 3, 97, GREATEST):
            for bits in range(3):
                table = Numbers(bits).many(4 ** bits, p)
                for exponent in EXPONENTS + (100,):
                    self.assertEqual(kept(self, power, table, bits, exponent, p), plain_power(table, bits, exponent, p))

    def test_walks_are_counted(self):
        """The entries count the rows of steps from one point to another."""
        table = [1, 1, 0, 0, 0, 0, 1, 1, 1, 0, 0, 0, 0, 1, 1, 0]
        for exponent in (1, 2, 3, 5):
            found = power(table, 2, exponent, GREATEST)
            for i, j in product(range(4), repeat=2):
                many = 0
                for between in product(range(4), repeat=exponent - 1):
                    road = (i,) + between + (j,)
                    many += all(table[x + 4 * y] for x, y in zip(road, road[1:]))
                self.assertEqual(found[i + 4 * j], many)

    def test_the_largest(self):
        table = [1 if (i + 1) % 64 == j else 0 for j in range(64) for i in range(64)]
        found = power(table, 6, 65535, 97)
        self.assertEqual(found, [1 if (i + 65535) % 64 == j else 0 for j in range(64) for i in range(64)])


class CountsTest(unittest.TestCase):
    def test_throws_and_share(self):
        for bits in range(5):
            for exponent in EXPONENTS + (65535, 65534):
                for whole in (True, False):
                    many, degrees = (2 * bits, 2 * bits) if whole else (0, 0)
                    kept_claims = 0
                    for word in plain_steps(exponent):
                        many += bits
                        degrees += 2 * bits
                        if word == "square":
                            many += 1 + 2 * bits
                            degrees += 1 + 4 * bits
                        else:
                            kept_claims += 1
                    if kept_claims:
                        many += 1 + 2 * bits
                        degrees += kept_claims + 4 * bits
                    self.assertEqual((walk_throws(bits, exponent, whole), walk_share(bits, exponent, whole)), (many, degrees))


class HonestTest(unittest.TestCase):
    def test_answers(self):
        for p, bits, exponent, table, claim, throws in samples((3, 97, GREATEST), (1, 2, 3, 5, 6), (0, 1)):
            found = kept(self, walk_answers, table, bits, exponent, claim, throws, p)
            talk = PlainWalk(table, bits, exponent, claim, throws, p)
            self.assertEqual(found, (talk.told, talk.last))
            self.assertEqual(talk.left, [])

    def test_answers_with_two_bits(self):
        for p, bits, exponent, table, claim, throws in samples((97,), (2, 3), (2,)):
            talk = PlainWalk(table, bits, exponent, claim, throws, p)
            self.assertEqual(walk_answers(table, bits, exponent, claim, throws, p), (talk.told, talk.last))

    def test_they_are_believed(self):
        for p, bits, exponent, table, claim, throws in samples():
            told = walk_answers(table, bits, exponent, claim, throws, p)
            self.assertEqual(kept(self, judge_walk, table, bits, exponent, claim, throws, told, p), ("believed",))
            self.assertIsNone(kept(self, blame_walk, table, bits, exponent, claim, throws, told, p))

    def test_forms(self):
        """Nothing is sent about the matrix itself; without a "times" nothing is kept."""
        self.assertEqual(walk_answers([5, 6, 7, 8], 1, 1, ("entry", 0, 1, 7), [], 97), ([], None))
        self.assertEqual(walk_answers([5, 6, 7, 8], 1, 1, ("table", [5, 6, 7, 8]), [3, 4], 97), ([], None))
        told, last = walk_answers([5, 6, 7, 8], 1, 4, ("entry", 0, 1, 0), Numbers(1).many(walk_throws(1, 4, False), 97), 97)
        self.assertEqual(([len(step) for step in told], last), ([3, 3], None))
        told, last = walk_answers([5, 6, 7, 8], 1, 5, ("entry", 0, 1, 0), Numbers(1).many(walk_throws(1, 5, False), 97), 97)
        self.assertEqual(([len(step) for step in told], len(last)), ([2, 3, 3], 2))

    def test_the_largest_ones(self):
        for bits, exponent, whole in ((6, 65535, True), (6, 40000, False), (3, 65535, True)):
            numbers = Numbers(bits)
            table = numbers.many(4 ** bits, GREATEST)
            right = power(table, bits, exponent, GREATEST)
            claim = ("table", right) if whole else ("entry", 5, 7, right[5 + 2 ** bits * 7])
            throws = numbers.many(walk_throws(bits, exponent, whole), GREATEST)
            told = walk_answers(table, bits, exponent, claim, throws, GREATEST)
            self.assertEqual(judge_walk(table, bits, exponent, claim, throws, told, GREATEST), ("believed",))
            wrong = ("table", right[:-1] + [(right[-1] + 1) % GREATEST]) if whole else ("entry", 5, 7, (claim[3] + 1) % GREATEST)
            self.assertEqual(judge_walk(table, bits, exponent, wrong, throws, told, GREATEST), ("refused", 0, 0))

    def test_nothing_is_shared(self):
        table = [1, 2, 3, 4]
        unshared(self, power(table, 1, 1, 97), table)


class PlacesTest(unittest.TestCase):
    """Point 26.9."""

    def test_every_answer(self):
        """Each answer with another first number is refused at its own place."""
        p, bits = 97, 1
        for exponent, whole in ((5, True), (3, False), (2, True), (7, False)):
            table, claim, throws = sample(p, bits, exponent, whole)
            told = walk_answers(table, bits, exponent, claim, throws, p)
            places = []
            for j, word in enumerate(reversed(plain_steps(exponent))):
                places += [("refused", j, 0), ("refused", j, "pair")]
                if word == "square":
                    places += [("refused", j, "join", 0), ("refused", j, "join", 1), ("refused", j, "join", "end")]
            if told[1]:
                places += [("refused", "last", 0), ("refused", "last", 1), ("refused", "last", "end")]
            self.assertEqual(len(places), len(flat(told)))
            for at, place in enumerate(places):
                wrongs = [-1, 97] if isinstance(flat(told)[at], int) else [[], flat(told)[at][:-1], flat(told)[at] + [0], [97] + flat(told)[at][1:]]
                first = deepcopy(flat(told)[at])
                if isinstance(first, int):
                    first = (first + 1) % p
                else:
                    first[0] = (first[0] + 1) % p
                for wrong in wrongs + [first]:
                    changed = deepcopy(flat(told))
                    changed[at] = wrong
                    self.assertEqual(judge_walk(table, bits, exponent, claim, throws, shaped(changed, told), p), place)
                    self.assertIsNone(blame_walk(table, bits, exponent, claim, throws, shaped(changed, told), p))

    def test_the_matrix(self):
        for number in range(97):
            result = judge_walk([5, 6, 7, 8], 1, 1, ("entry", 0, 1, number), [], ([], None), 97)
            self.assertEqual(result, ("believed",) if number == 7 else ("refused", "matrix"))
        # A table that agrees with the matrix at the point only.
        claim = ("table", [5, 6, 7, 9])
        self.assertEqual(judge_walk([5, 6, 7, 8], 1, 1, claim, [3, 4], ([], None), 97), ("refused", "matrix"))
        self.assertIsNone(blame_walk([5, 6, 7, 8], 1, 1, claim, [3, 4], ([], None), 97))
        self.assertEqual(judge_walk([5, 6, 7, 8], 1, 1, claim, [3, 0], ([], None), 97), ("believed",))
        self.assertEqual(blame_walk([5, 6, 7, 8], 1, 1, claim, [3, 0], ([], None), 97), ("claim",))

    def test_false_claims_with_honest_answers(self):
        for p, bits, exponent, table, claim, throws in samples((GREATEST,), (2, 3, 6), (1, 2)):
            if claim[0] == "table":
                wrong = ("table", [(claim[1][0] + 1) % p] + claim[1][1:])
            else:
                wrong = claim[:3] + ((claim[3] + 1) % p,)
            told = walk_answers(table, bits, exponent, claim, throws, p)
            self.assertEqual(judge_walk(table, bits, exponent, wrong, throws, told, p), ("refused", 0, 0))

    def test_changed_answers_are_as_the_plain_calculation_tells(self):
        """A number that is changed is refused there or later, or leaves a true claim believed."""
        kinds = set()
        for p, bits, exponent, table, claim, throws in samples((3, 5), (2, 3, 5), (1,)):
            honest = walk_answers(table, bits, exponent, claim, throws, p)
            for at in range(len(flat(honest))):
                changed = deepcopy(flat(honest))
                if isinstance(changed[at], int):
                    changed[at] = (changed[at] + 1) % p
                else:
                    changed[at][-1] = (changed[at][-1] + 1) % p
                told = shaped(changed, honest)
                result = judge_walk(table, bits, exponent, claim, throws, told, p)
                kinds.add(result[-1])
                self.assertIsNone(blame_walk(table, bits, exponent, claim, throws, told, p))
        self.assertLessEqual({0, "pair", "end", "believed"}, kinds)


class ErrorsTest(unittest.TestCase):
    def wrong(self, kind, field, word, **changes):
        table = [1, 1, 1, 0]
        given = dict(table=table, bits=1, exponent=5, claim=("entry", 0, 1, 5), throws=list(range(walk_throws(1, 5, False))), told=None, p=97)
        given["told"] = walk_answers(table, 1, 5, given["claim"], given["throws"], 97)
        self.assertEqual(judge_walk(*given.values()), ("believed",))
        given.update(changes)
        for function in (judge_walk, blame_walk):
            raised(self, kind, field, word, function, *given.values())

    def test_modulus_and_limits(self):
        nothing = dict(table=None, claim=("table", None), throws=[], told=None)
        self.wrong(FieldError, "number", 4, p=4, bits=7, exponent=0, **nothing)
        self.wrong(CircuitError, "part", "modulus", p=2, bits=7, exponent=0, **nothing)
        self.wrong(SizeError, "limit", "matrix", bits=7, exponent=0, **nothing)
        for exponent in (0, -1, 65536, 10 ** 30):
            self.wrong(SizeError, "limit", "exponent", exponent=exponent, **nothing)
        for exponent in (1, 65535):
            self.wrong(CircuitError, "part", "matrix", bits=6, exponent=exponent, **nothing)

    def test_matrices_and_entries(self):
        for table in (None, [], [1, 1, 1], [1, 1, 1, 97], [1, 1, 1, 0, 0]):
            self.wrong(CircuitError, "part", "matrix", table=table, claim=("entry", 9, 9, 97), throws=[], told=None)
            self.wrong(CircuitError, "part", "matrix", claim=("table", table), throws=[], told=None)
        for claim in (("entry", 2, 0, 5), ("entry", 0, 2, 5), ("entry", -1, 0, 5), ("entry", 0, -1, 5), ("entry", 0, 1, 97), ("entry", 0, 1, -1)):
            self.wrong(CircuitError, "part", "entry", claim=claim, throws=[], told=None)

    def test_throws(self):
        many = walk_throws(1, 5, False)
        for throws in ([], [0] * (many - 1), [0] * (many + 1), [0] * walk_throws(1, 5, True)):
            self.wrong(TalkError, "step", "throws", throws=throws, told=None)
        for at in range(many):
            for number in (-1, 97):
                self.wrong(TalkError, "step", "throw", throws=[0] * at + [number] + [0] * (many - at - 1), told=None)
        self.wrong(TalkError, "step", "throw", claim=("entry", 0, 1, 6), throws=[0] * (many - 1) + [97])

    def test_answers(self):
        throws = list(range(walk_throws(1, 5, False)))
        told, last = walk_answers([1, 1, 1, 0], 1, 5, ("entry", 0, 1, 5), throws, 97)
        times, first, second = told
        joining = first[2]
        for other in ((told[:2], last), (told + [first], last), ([], last), ([times, first, first[:2]], last), ([times + (joining,), first, second], last),
                      ([first, first, second], last), ([times, times, second], last), ([([], times[1]), first, second], last),
                      ([(times[0] * 2, times[1]), first, second], last), ([times, ([], first[1], joining), second], last),
                      ([times, first[:2] + (([], joining[1]),), second], last), ([times, first[:2] + ((joining[0] * 2, joining[1]),), second], last),
                      (told, None), (told, (last[0][:1], last[1])), (told, (last[0] * 2, last[1])), (told,), ()):
            self.wrong(TalkError, "step", "answers", told=other)
            self.wrong(TalkError, "step", "answers", told=other, claim=("entry", 0, 1, 6))
        # A last joining where nothing is kept.
        throws = throws[:walk_throws(1, 2, False)]
        claim = ("entry", 0, 1, power([1, 1, 1, 0], 1, 2, 97)[2])
        told, _ = walk_answers([1, 1, 1, 0], 1, 2, claim, throws, 97)
        self.assertEqual(judge_walk([1, 1, 1, 0], 1, 2, claim, throws, (told, None), 97), ("believed",))
        self.wrong(TalkError, "step", "answers", exponent=2, claim=claim, throws=throws, told=(told, last))


class BlameTest(unittest.TestCase):
    """Point 26.9: all throws."""

    def talk(self, table, bits, exponent, right, wrong, p):
        def run(throws, seed):
            honest = walk_answers(table, bits, exponent, right, throws, p)
            self.assertEqual(judge_walk(table, bits, exponent, right, throws, honest, p), ("believed",))

            def judged(told):
                return judge_walk(table, bits, exponent, wrong, throws, shaped(told, honest), p)

            told = shaped(bluffed(judged, flat(honest), p, seed), honest)
            result = judge_walk(table, bits, exponent, wrong, throws, told, p)
            place = blame_walk(table, bits, exponent, wrong, throws, told, p)
            if result == ("believed",):
                talk = PlainWalk(table, bits, exponent, wrong, throws, p)
                self.assertEqual(place, plain_place(talk, wrong, told, table, exponent))
            return result, place

        return run

    def case(self, p, bits, exponent, whole, seed):
        table, right, _ = sample(p, bits, exponent, whole, seed)
        if whole:
            wrong = ("table", right[1][:-1] + [(right[1][-1] + 1) % p])
        else:
            wrong = right[:3] + ((right[3] + 1) % p,)
        return table, right, wrong

    def test_all_throws(self):
        kinds = {}
        for p, bits, exponent, whole in ((3, 1, 1, True), (3, 0, 3, True), (5, 0, 4, False), (3, 0, 7, False), (3, 1, 2, False), (3, 1, 2, True), (5, 1, 1, True),
                                         (3, 1, 3, False)):
            table, right, wrong = self.case(p, bits, exponent, whole, 2)
            talk = self.talk(table, bits, exponent, right, wrong, p)
            many = walk_throws(bits, exponent, whole)
            kinds.update(counted(self, p, many, walk_share(bits, exponent, whole), talk, seeds=(1,), step=1 if many < 8 else 29))
        self.assertLessEqual({("claim",), ("round", 0, 0), ("mix", 0), ("join", 1, 0), ("join", 1, 1), ("mix", "last")}, set(kinds))

    def test_last_joinings(self):
        kinds = {}
        for p, bits, exponent, whole, step in ((3, 1, 3, False, 19), (3, 1, 5, False, 3001), (5, 1, 3, True, 50021), (3, 1, 7, False, 20021)):
            table, right, wrong = self.case(p, bits, exponent, whole, 3)
            talk = self.talk(table, bits, exponent, right, wrong, p)
            many = walk_throws(bits, exponent, whole)
            kinds.update(counted(self, p, many, walk_share(bits, exponent, whole), talk, seeds=(1, 2, 3), step=step))
        self.assertLessEqual({("mix", "last"), ("join", "last", 0), ("join", "last", 1), ("round", 1, 0)}, set(kinds))

    def test_a_true_claim_has_no_blame(self):
        table = [1, 2, 2, 0]
        squared = plain_power(table, 1, 2, 3)
        for i, j in product(range(2), repeat=2):
            right = ("entry", i, j, squared[i + 2 * j])
            for throws in product(range(3), repeat=4):
                honest = walk_answers(table, 1, 2, right, list(throws), 3)
                told = bluffed(lambda sent: judge_walk(table, 1, 2, right, list(throws), shaped(sent, honest), 3), flat(honest), 3, 1)
                self.assertIsNone(blame_walk(table, 1, 2, right, list(throws), shaped(told, honest), 3))


def plain_closed(table, bits, p):
    many = 2 ** bits
    return sum(table[i + many * j] * table[j + many * k] * table[k + many * i] for i, j, k in product(range(many), repeat=3)) % p


class PlainClosed:
    """The honest conversation of point 26.10."""

    def __init__(self, table, bits, throws, p):
        a, self.p = bits, p
        thrown, last = throws[:3 * a], throws[3 * a:]

        def points(at):
            return [at[:a] + at[a:2 * a], at[a:2 * a] + at[2 * a:], at[2 * a:] + at[:a]]

        def summand(at):
            found = 1
            for point in points(at):
                found = found * table_value(table, point, p) % p
            return found

        polys = []
        for k in range(3 * a):
            rests = list(product((0, 1), repeat=3 * a - k - 1))
            polys.append([sum(summand(thrown[:k] + [t] + list(rest)) for rest in rests) % p for t in range(3)])
        values = [table_value(table, point, p) for point in points(thrown)]
        joining = plain_join(p, table, points(thrown), last)
        self.told = (polys, values, joining)
        self.places = [(("round", k), poly, thrown[k]) for k, poly in enumerate(polys)] + [(("mix",), values, last[0])]
        self.places += [(("join", k), poly, last[1 + k]) for k, poly in enumerate(joining[0])]

    def place(self, told):
        polys, values, joining = told
        sent = {("round", k): poly for k, poly in enumerate(polys)}
        sent[("mix",)] = values
        sent.update({("join", k): poly for k, poly in enumerate(joining[0])})
        for place, honest, thrown in self.places:
            if place == ("mix",):
                if values != honest and mixed_value(values, thrown, self.p) == mixed_value(honest, thrown, self.p):
                    return place
            elif agreement(sent[place], honest, thrown, self.p):
                return place
        return "no place"


def flat_closed(told):
    return told[0] + [told[1]] + told[2][0] + [told[2][1]]


def shaped_closed(list_of_answers, bits):
    many = 3 * bits
    return list_of_answers[:many], list_of_answers[many], (list_of_answers[many + 1:-1], list_of_answers[-1])


class ClosedTest(unittest.TestCase):
    """Point 26.10."""

    def test_numbers(self):
        for p in (2, 3, 97, GREATEST):
            for bits in range(4):
                table = Numbers(bits).many(4 ** bits, p)
                self.assertEqual(kept(self, closed_walks, table, bits, p), plain_closed(table, bits, p))

    def test_triangles(self):
        for seed in range(10):
            numbers = Numbers(seed)
            lines = {pair for pair in combinations(range(8), 2) if numbers.below(2)}
            table = [1 if (i, j) in lines or (j, i) in lines else 0 for j in range(8) for i in range(8)]
            triangles = [three for three in combinations(range(8), 3) if all(pair in lines for pair in combinations(three, 2))]
            self.assertEqual(closed_walks(table, 3, GREATEST), 6 * len(triangles))

    def test_counts(self):
        for bits in range(6):
            self.assertEqual((closed_throws(bits), closed_share(bits)), (3 * bits + 1 + 2 * bits, 10 * bits + 2))

    def test_honest_answers(self):
        for p in (3, 5, 97, GREATEST):
            for bits in range(4):
                numbers = Numbers(bits)
                table, throws = numbers.many(4 ** bits, p), numbers.many(closed_throws(bits), p)
                told = kept(self, closed_answers, table, bits, throws, p)
                if bits < 2:
                    self.assertEqual(told, PlainClosed(table, bits, throws, p).told)
                given = (table, bits, plain_closed(table, bits, p), throws, told, p)
                self.assertEqual(kept(self, judge_closed, *given), ("believed",))
                self.assertIsNone(kept(self, blame_closed, *given))

    def test_the_largest(self):
        numbers = Numbers(4)
        table, throws = numbers.many(256, GREATEST), numbers.many(closed_throws(4), GREATEST)
        number, told = closed_walks(table, 4, GREATEST), closed_answers(table, 4, throws, GREATEST)
        self.assertEqual(judge_closed(table, 4, number, throws, told, GREATEST), ("believed",))
        self.assertEqual(judge_closed(table, 4, (number + 1) % GREATEST, throws, told, GREATEST), ("refused", 0))

    def test_places(self):
        p, bits = 97, 1
        numbers = Numbers(8)
        table, throws = numbers.many(4, p), numbers.many(closed_throws(1), p)
        told = closed_answers(table, bits, throws, p)
        number = closed_walks(table, bits, p)
        places = [(0,), (1,), (2,), ("values",), ("join", 0), ("join", 1), ("join", "end")]
        for at, place in enumerate(places):
            right = flat_closed(told)[at]
            if isinstance(right, int):
                wrongs = [(right + 1) % p, -1, p]
            else:
                wrongs = [[(right[0] + 1) % p] + right[1:], right[:-1], right + [0], right + [1], [p] + right[1:], [right[0] + p] + right[1:], []]
            for wrong in wrongs:
                changed = flat_closed(told)[:at] + [wrong] + flat_closed(told)[at + 1:]
                self.assertEqual(judge_closed(table, bits, number, throws, shaped_closed(changed, bits), p), ("refused",) + place)
        self.assertEqual(judge_closed(table, bits, (number + 1) % p, throws, told, p), ("refused", 0))

    def test_the_matrix(self):
        """Without bits, three values with the right product are compared with the matrix."""
        self.assertEqual(judge_closed([2], 0, 8, [5], ([], [2, 2, 2], ([], 2)), 97), ("believed",))
        self.assertEqual(judge_closed([2], 0, 8, [0], ([], [4, 2, 1], ([], 4)), 97), ("refused", "matrix"))
        self.assertEqual(judge_closed([2], 0, 8, [0], ([], [2, 4, 1], ([], 2)), 97), ("believed",))
        self.assertIsNone(blame_closed([2], 0, 8, [0], ([], [2, 4, 1], ([], 2)), 97))
        self.assertEqual(blame_closed([2], 0, 16, [0], ([], [2, 4, 2], ([], 2)), 97), ("mix",))
        self.assertEqual(judge_closed([2], 0, 16, [1], ([], [2, 4, 2], ([], 2)), 97), ("refused", "join", "end"))

    def test_errors(self):
        def wrong(kind, field, word, **changes):
            given = dict(table=[1, 2, 3, 4], bits=1, number=closed_walks([1, 2, 3, 4], 1, 97), throws=[1, 2, 3, 4, 5, 6], told=None, p=97)
            given["told"] = closed_answers(given["table"], 1, given["throws"], 97)
            self.assertEqual(judge_closed(*given.values()), ("believed",))
            given.update(changes)
            for function in (judge_closed, blame_closed):
                raised(self, kind, field, word, function, *given.values())

        nothing = dict(table=None, number=97, throws=[], told=None)
        wrong(FieldError, "number", 1, p=1, bits=5, **nothing)
        wrong(CircuitError, "part", "modulus", p=2, bits=5, **nothing)
        wrong(SizeError, "limit", "matrix", bits=5, **nothing)
        wrong(CircuitError, "part", "matrix", bits=4, **nothing)
        for table in ([], [1, 2, 3], [1, 2, 3, 97], [1, 2, 3, 4, 5]):
            wrong(CircuitError, "part", "matrix", table=table, number=97, throws=[], told=None)
        for number in (97, -1):
            wrong(CircuitError, "part", "number", number=number, throws=[], told=None)
        for throws in ([], [1, 2, 3, 4, 5], [1, 2, 3, 4, 5, 6, 97]):
            wrong(TalkError, "step", "throws", throws=throws, told=None)
        for at in range(6):
            for number in (97, -1):
                wrong(TalkError, "step", "throw", throws=[0] * at + [number] + [0] * (5 - at), told=None)
        polys, values, joining = closed_answers([1, 2, 3, 4], 1, [1, 2, 3, 4, 5, 6], 97)
        for told in ((polys[:2], values, joining), (polys + polys[:1], values, joining), (polys, values, ([], joining[1])), (polys, values),
                     (polys, values, (joining[0] * 2, joining[1])), ()):
            wrong(TalkError, "step", "answers", told=told)
            wrong(TalkError, "step", "answers", told=told, number=5)

    def test_all_throws(self):
        kinds = {}
        for p, bits, step in ((3, 0, 1), (5, 0, 1), (3, 1, 1), (5, 1, 23)):
            table = Numbers(p + 1).many(4 ** bits, p)
            right = plain_closed(table, bits, p)
            wrong = (right + 1) % p

            def talk(throws, seed):
                honest = closed_answers(table, bits, throws, p)
                self.assertEqual(judge_closed(table, bits, right, throws, honest, p), ("believed",))

                def judged(told):
                    return judge_closed(table, bits, wrong, throws, shaped_closed(told, bits), p)

                told = shaped_closed(bluffed(judged, flat_closed(honest), p, seed), bits)
                result = judged(flat_closed(told))
                place = blame_closed(table, bits, wrong, throws, told, p)
                if result == ("believed",):
                    self.assertEqual(place, PlainClosed(table, bits, throws, p).place(told))
                return result, place

            kinds.update(counted(self, p, closed_throws(bits), closed_share(bits), talk, seeds=(1,), step=step))
        self.assertLessEqual({("round", 0), ("round", 2), ("mix",), ("join", 0), ("join", 1)}, set(kinds))


if __name__ == "__main__":
    unittest.main()
