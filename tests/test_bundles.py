"""Points 22.3 to 22.7: several circuits over the same inputs."""

import unittest
from copy import deepcopy
from itertools import product

from bluffs import agreement, bluffed, counted, mixed_value, plain_join
from layerask.answering import Answerer, answers
from layerask.asking import judge
from layerask.bundles import bundle_answers, bundle_blame, bundle_share, bundle_throws, checked_bundle, judge_bundle
from layerask.counts import share, throws as throws_of
from layerask.errors import CircuitError, FieldError, SizeError, TalkError
from plain import (GREATEST, Numbers, kept, plain_answers, plain_blame, point_between, poly_value, raised, sample_circuit,
                   sample_rows, split_throws, table_value, throw_count, true_outputs)

A = ("circuit", 97, [0, 1], [[("mul", 1, 0, 1)]])
B = ("circuit", 97, [0, 1], [[("lin", 1, 0, 1, 1)]])
DICE = [3, 4, 2, 1, 0, 6, 2, 9]


def bundle(p, shapes, seed):
    return [sample_circuit(p, widths, seed + at) for at, widths in enumerate(shapes)]


def parts_of(circuits, dims, throws):
    """The throws of each circuit, and those of the joining."""
    found, at = [], 0
    for circuit in circuits:
        found.append(throws[at:at + throw_count(circuit, dims)])
        at += throw_count(circuit, dims)
    return found, throws[at:]


def last_point(circuit, dims, part):
    _, thrown, t = split_throws(circuit, dims, part)[-1]
    bits = circuit[2][-1]
    return thrown[:dims] + point_between(thrown[dims:dims + bits], thrown[dims + bits:], t, circuit[1])


def table_of(rows):
    return [row[at] for at in range(len(rows[0])) for row in rows]


def plain_told(circuits, rows, throws, answers_to):
    """The honest answers; `answers_to` gives those to a circuit."""
    dims = len(rows).bit_length() - 1
    parts, last = parts_of(circuits, dims, throws)
    told = [answers_to(circuit, rows, part) for circuit, part in zip(circuits, parts)]
    points = [last_point(circuit, dims, part) for circuit, part in zip(circuits, parts)]
    return told, plain_join(circuits[0][1], table_of(rows), points, last)


def place_in(circuits, rows, outputs, throws, told):
    """Point 22.6, for outputs that are believed."""
    p, dims = circuits[0][1], len(rows).bit_length() - 1
    if outputs == [true_outputs(circuit, rows) for circuit in circuits]:
        return None
    parts, last = parts_of(circuits, dims, throws)
    for j, circuit in enumerate(circuits):
        place = plain_blame(circuit, rows, outputs[j], parts[j], told[0][j])
        if place not in (None, "no place"):
            return ("circuit", j, place)
    points = [last_point(circuit, dims, part) for circuit, part in zip(circuits, parts)]
    claims = [poly_value(answers_to[-1][1], part[-1], p) for answers_to, part in zip(told[0], parts)]
    right = [table_value(table_of(rows), point, p) for point in points]
    if claims != right and mixed_value(claims, last[0], p) == mixed_value(right, last[0], p):
        return ("mix",)
    polys, _ = plain_join(p, table_of(rows), points, last)
    for k, number in enumerate(last[1:]):
        if agreement(told[1][0][k], polys[k], number, p):
            return ("join", k)
    return "no place"


def flat(told):
    return [values for circuit in told[0] for polys, line in circuit for values in polys + [line]] + told[1][0] + [told[1][1]]


def shaped(list_of_answers, like):
    """The answers in the form of others."""
    left = list(list_of_answers)
    circuits = [[([left.pop(0) for _ in polys], left.pop(0)) for polys, _ in circuit] for circuit in like[0]]
    return circuits, ([left.pop(0) for _ in like[1][0]], left.pop(0))


SHAPES = ((0, [[0, 0]]), (0, [[0, 1], [0, 1]]), (1, [[1, 0], [0, 0]]), (1, [[0, 1], [2, 1], [0, 2, 1]]), (2, [[0, 1], [1, 0, 1]]),
          (0, [[2, 2], [0, 2], [1, 2], [0, 1, 2]]))


class HonestTest(unittest.TestCase):
    def test_answers(self):
        for dims, shapes in SHAPES[:4]:
            for p in (5, 97, GREATEST):
                circuits = bundle(p, shapes, dims)
                rows = sample_rows(circuits[0], dims, 1)
                throws = Numbers(dims).many(bundle_throws(circuits, dims), p)
                told = kept(self, bundle_answers, circuits, rows, throws)
                self.assertEqual(told, plain_told(circuits, rows, throws, plain_answers))

    def test_they_are_believed(self):
        for dims, shapes in SHAPES:
            for p in (5, 7, 97, GREATEST):
                for seed in range(3):
                    circuits = bundle(p, shapes, seed)
                    rows = sample_rows(circuits[0], dims, seed)
                    outputs = [true_outputs(circuit, rows) for circuit in circuits]
                    throws = Numbers(seed).many(bundle_throws(circuits, dims), p)
                    told = bundle_answers(circuits, rows, throws)
                    self.assertEqual(kept(self, judge_bundle, circuits, rows, outputs, throws, told), ("believed",))
                    self.assertIsNone(kept(self, bundle_blame, circuits, rows, outputs, throws, told))

    def test_all_throws(self):
        for dims, shapes in ((0, [[0, 1]]), (0, [[0, 0], [1, 0]]), (0, [[0, 0], [0, 0], [0, 0]])):
            circuits = bundle(5, shapes, 3)
            rows = sample_rows(circuits[0], dims, 3)
            outputs = [true_outputs(circuit, rows) for circuit in circuits]
            for throws in product(range(5), repeat=bundle_throws(circuits, dims)):
                told = bundle_answers(circuits, rows, list(throws))
                self.assertEqual(judge_bundle(circuits, rows, outputs, list(throws), told), ("believed",))
                self.assertIsNone(bundle_blame(circuits, rows, outputs, list(throws), told))

    def test_errors_of_the_honest_answers(self):
        raised(self, CircuitError, "part", "circuit", bundle_answers, [A, None], [[5, 7]], DICE)
        raised(self, CircuitError, "part", "rows", bundle_answers, [A, None], [], DICE)
        raised(self, CircuitError, "part", "row", bundle_answers, [A, ("circuit", 97, [0, 0], [[("mul", 1, 0, 0)]])], [[5, 7]], DICE)

    def test_large_ones(self):
        circuits = bundle(GREATEST, [[0, 8], [8, 8], [3, 0, 8]], 1)
        rows = sample_rows(circuits[0], 3, 1)
        outputs = [true_outputs(circuit, rows) for circuit in circuits]
        throws = Numbers(1).many(bundle_throws(circuits, 3), GREATEST)
        told = bundle_answers(circuits, rows, throws)
        self.assertEqual(judge_bundle(circuits, rows, outputs, throws, told), ("believed",))


class CountsTest(unittest.TestCase):
    def test_throws_and_share(self):
        for dims, shapes in SHAPES:
            circuits = bundle(97, shapes, 0)
            m = dims + circuits[0][2][-1]
            self.assertEqual(kept(self, bundle_throws, circuits, dims), sum(throws_of(circuit, dims) for circuit in circuits) + 1 + m)
            self.assertEqual(kept(self, bundle_share, circuits, dims),
                             sum(share(circuit, dims) for circuit in circuits) + len(circuits) - 1 + 2 * m)

    def test_nothing_is_checked(self):
        self.assertEqual(bundle_throws([("circuit", 4, [0, 99], [None])], 5), 5 + 5 + 198 + 1 + 1 + 104)
        self.assertEqual(bundle_share([("circuit", 4, [0, 99], [None])], 5), 5 + 15 + 396 + 99 + 208)

    def test_dimensions(self):
        self.assertEqual(checked_bundle([A, B], [[5, 7]]), 1)
        self.assertEqual(kept(self, checked_bundle, bundle(97, [[0, 3], [2, 3]], 1), [[0] * 8] * 4), 5)


class PlacesTest(unittest.TestCase):
    """Point 22.5."""

    def setUp(self):
        self.circuits = bundle(97, [[0, 1], [1, 0, 1]], 5)
        self.rows = sample_rows(self.circuits[0], 1, 5)
        self.outputs = [true_outputs(circuit, self.rows) for circuit in self.circuits]
        self.throws = Numbers(5).many(bundle_throws(self.circuits, 1), 97)
        self.told = bundle_answers(self.circuits, self.rows, self.throws)

    def place(self, told):
        self.assertIsNone(bundle_blame(self.circuits, self.rows, self.outputs, self.throws, told))
        return judge_bundle(self.circuits, self.rows, self.outputs, self.throws, told)

    def test_every_answer(self):
        """An answer with another first number is refused at once, or later if it fits by chance."""
        places = [("refused", 0, 0, 0), ("refused", 0, 0, 1), ("refused", 0, 0, 2), ("refused", 0, 0, "end"), ("refused", 1, 0, 0),
                  ("refused", 1, 0, "end"), ("refused", 1, 1, 0), ("refused", 1, 1, 1), ("refused", 1, 1, 2), ("refused", 1, 1, "end"),
                  ("refused", "join", 0), ("refused", "join", 1), ("refused", "join", "end")]
        answers_told = flat(self.told)
        self.assertEqual(len(answers_told), len(places))
        for at, place in enumerate(places):
            for change in (1, 50):
                told = deepcopy(answers_told)
                if isinstance(told[at], int):
                    told[at] = (told[at] + change) % 97
                else:
                    told[at][0] = (told[at][0] + change) % 97
                self.assertEqual(self.place(shaped(told, self.told)), place)
            if isinstance(answers_told[at], list):
                for wrong in (answers_told[at] + [0], answers_told[at][:-1], [97] + answers_told[at][1:]):
                    self.assertEqual(self.place(shaped(answers_told[:at] + [wrong] + answers_told[at + 1:], self.told)), place)
            else:
                for wrong in (-1, 97, answers_told[at] + 97):
                    self.assertEqual(self.place(shaped(answers_told[:at] + [wrong] + answers_told[at + 1:], self.told)), place)

    def test_the_inputs(self):
        """A joining that is changed so that everything in it fits is refused at the inputs."""
        places = set()
        for throws in product(range(5), repeat=5):
            circuits = bundle(5, [[0, 1]], 5)
            rows = sample_rows(circuits[0], 0, 5)
            outputs = [true_outputs(circuits[0], rows)]
            told = bundle_answers(circuits, rows, list(throws))
            told[1][0][0][2] = (told[1][0][0][2] + 1) % 5
            for number in range(5):
                told = (told[0], (told[1][0], number))
                places.add(judge_bundle(circuits, rows, outputs, list(throws), told))
        self.assertEqual(places, {("believed",), ("refused", "join", "end"), ("refused", "inputs")})

    def test_false_outputs(self):
        for j, place in ((0, ("refused", 0, 0, 0)), (1, ("refused", 1, 0, 0))):
            self.outputs[j][-1][-1] = (self.outputs[j][-1][-1] + 1) % 97
            self.assertEqual(self.place(self.told), place)
            self.outputs[j][-1][-1] = (self.outputs[j][-1][-1] - 1) % 97

    def test_one_circuit(self):
        """The places in front of the joining are those of the circuit alone."""
        circuit = sample_circuit(97, [1, 1, 1], 3)
        rows = sample_rows(circuit, 1, 3)
        throws = Numbers(4).many(bundle_throws([circuit], 1), 97)
        told = bundle_answers([circuit], rows, throws)
        outputs = true_outputs(circuit, rows)
        for at in range(len(flat(told)) - 3):
            changed = deepcopy(flat(told))
            changed[at][0] = (changed[at][0] + 1) % 97
            changed = shaped(changed, told)
            alone = judge(circuit, rows, outputs, throws[:throw_count(circuit, 1)], changed[0][0])
            self.assertEqual(judge_bundle([circuit], rows, [outputs], throws, changed), ("refused", 0) + alone[1:])


class ErrorsTest(unittest.TestCase):
    def wrong(self, kind, field, word, circuits=(A, B), rows=((5, 7),), outputs=(((35,),), ((12,),)), throws=tuple(DICE), told=None):
        def listed(thing):
            return [listed(entry) for entry in thing] if isinstance(thing, tuple) and thing[:1] != ("circuit",) else thing

        given = [listed(circuits), listed(rows), listed(outputs), listed(throws)]
        if told is None:
            told = bundle_answers([A, B], [[5, 7]], DICE)
        for function in (judge_bundle, bundle_blame):
            raised(self, kind, field, word, function, *given, told)
        if word in ("bundle", "circuit", "modulus", "inputs", "rows", "row") or kind is FieldError:
            raised(self, kind, field, word, checked_bundle, *given[:2])

    def test_the_circuits(self):
        for circuits in (None, [], {}, "", A):
            self.wrong(CircuitError, "part", "bundle", circuits=circuits, rows=None)
        three = ("circuit", 3) + A[2:]
        four = ("circuit", 4) + A[2:]
        self.wrong(CircuitError, "part", "circuit", circuits=[None, A], rows=None)
        self.wrong(CircuitError, "part", "circuit", circuits=[A, None], rows=None)
        self.wrong(FieldError, "number", 4, circuits=[A, four, None], rows=None)
        self.wrong(CircuitError, "part", "modulus", circuits=[three, None], rows=None)
        self.wrong(CircuitError, "part", "modulus", circuits=[A, three], rows=None)
        self.wrong(FieldError, "number", 4, circuits=[four, three], rows=None)
        five = ("circuit", 5, [0, 5], [[("lin", 1, 0, 0, 0)]])
        self.wrong(CircuitError, "part", "modulus", circuits=[five], rows=None)
        self.wrong(CircuitError, "part", "gate", circuits=[A, ("circuit", 97, [0, 1], [[("mul", 1, 0, 2)]])], rows=None)

    def test_the_same_inputs(self):
        other = ("circuit", 101) + A[2:]
        wide = ("circuit", 97, [0, 2], A[3])
        for circuits in ([A, other], [A, wide], [wide, A], [A, A, other]):
            self.wrong(CircuitError, "part", "inputs", circuits=circuits, rows=None)
        # A wrong circuit behind another modulus is found first.
        self.wrong(CircuitError, "part", "circuit", circuits=[A, other, None], rows=None)

    def test_rows(self):
        for rows in (None, [], [[5, 7]] * 3):
            self.wrong(CircuitError, "part", "rows", rows=rows, outputs=None)
        self.wrong(SizeError, "limit", "rows", rows=[[5, 7]] * 2048, outputs=None)
        for rows in ([[5]], [[5, 97]], [[5, 7, 0]]):
            self.wrong(CircuitError, "part", "row", rows=rows, outputs=None)

    def test_outputs(self):
        for outputs in (None, [], [[[35]]], [[[35]], [[12]], [[1]]], [[[35]], [[97]]], [[[35]], []], [[[35]], [[12], [12]]], [[[35, 1]], [[12]]],
                        [[[35]], None]):
            self.wrong(CircuitError, "part", "outputs", outputs=outputs, throws=[])

    def test_throws(self):
        for throws in ([], DICE[:-1], DICE + [0]):
            self.wrong(TalkError, "step", "throws", throws=throws, told=())
        for at in range(len(DICE)):
            for number in (-1, 97):
                self.wrong(TalkError, "step", "throw", throws=DICE[:at] + [number] + DICE[at + 1:], told=())
        # A wrong throw matters even if it is not taken.
        told = bundle_answers([A, B], [[5, 7]], DICE)
        self.wrong(TalkError, "step", "throw", outputs=[[[36]], [[12]]], throws=DICE[:-1] + [97], told=told)

    def test_answers(self):
        (first, second), (polys, number) = bundle_answers([A, B], [[5, 7]], DICE)
        layer = first[0]
        for told in (([first], (polys, number)), ([first, second, second], (polys, number)), ([first, []], (polys, number)),
                     ([first, second * 2], (polys, number)), ([[(layer[0][:1], layer[1])], second], (polys, number)),
                     ([[(layer[0] + [[1, 2, 3]], layer[1])], second], (polys, number)), ([first, second], ([], number)),
                     ([first, second], (polys * 2, number)), ([first, second], ()), ([first, second],), ()):
            self.wrong(TalkError, "step", "answers", told=told)
        # The number of the polynomials matters even if the claim is refused before.
        self.wrong(TalkError, "step", "answers", outputs=[[[36]], [[12]]], told=([first, second], ([], number)))


class BlameTest(unittest.TestCase):
    """Points 22.6 and 22.7."""

    def talk(self, circuits, rows, outputs):
        def run(throws, seed):
            honest = bundle_answers(circuits, rows, throws)

            def judged(answers_told):
                return judge_bundle(circuits, rows, outputs, throws, shaped(answers_told, honest))

            told = shaped(bluffed(judged, flat(honest), circuits[0][1], seed), honest)
            result = judge_bundle(circuits, rows, outputs, throws, told)
            place = bundle_blame(circuits, rows, outputs, throws, told)
            if result == ("believed",):
                self.assertEqual(place, place_in(circuits, rows, outputs, throws, told))
            return result, place

        return run

    def case(self, shapes, dims, wrong, seed):
        circuits = bundle(5, shapes, seed)
        rows = sample_rows(circuits[0], dims, seed)
        outputs = [true_outputs(circuit, rows) for circuit in circuits]
        for j in wrong:
            outputs[j][-1][-1] = (outputs[j][-1][-1] + 1) % 5
        return circuits, rows, outputs

    def test_all_throws(self):
        kinds = {}
        for shapes, dims, wrong, seed in (([[0, 0], [0, 0]], 0, [0], 1), ([[0, 0], [1, 0]], 0, [1], 2), ([[0, 0], [0, 0], [0, 0]], 0, [0, 2], 3),
                                          ([[0, 1]], 0, [0], 4), ([[1, 0], [0, 0]], 0, [0, 1], 5)):
            circuits, rows, outputs = self.case(shapes, dims, wrong, seed)
            many, told_share = bundle_throws(circuits, dims), bundle_share(circuits, dims)
            kinds.update(counted(self, 5, many, told_share, self.talk(circuits, rows, outputs), seeds=(1,)))
        self.assertLessEqual({("mix",), ("join", 0), ("circuit", 1, ("outputs",)), ("circuit", 0, ("round", 0, 1))}, set(kinds))

    def test_some_throws(self):
        kinds = {}
        for shapes, dims, wrong, seed in (([[0, 0], [0, 0]], 1, [1], 1), ([[0, 1], [1, 1]], 0, [0, 1], 2), ([[0, 0, 1], [0, 1]], 0, [0], 3)):
            circuits, rows, outputs = self.case(shapes, dims, wrong, seed)
            many, told_share = bundle_throws(circuits, dims), bundle_share(circuits, dims)
            kinds.update(counted(self, 5, many, told_share, self.talk(circuits, rows, outputs), seeds=(1,), step=5 ** many // 4000 * 5 + 1))
        self.assertLessEqual({("mix",), ("join", 0), ("circuit", 0, ("round", 1, 0)), ("circuit", 0, ("line", 1)),
                              ("circuit", 1, ("outputs",))}, set(kinds))

    def test_a_true_claim_has_no_blame(self):
        """Also if what is sent is not honest."""
        circuits, rows, outputs = self.case([[0, 0], [0, 0]], 0, [], 6)
        for throws in product(range(5), repeat=bundle_throws(circuits, 0)):
            self.assertIsNone(self.talk(circuits, rows, outputs)(list(throws), 1)[1])

    def test_a_true_circuit_is_not_blamed(self):
        """The blame lies with the circuit whose outputs are false, whatever is sent about the others."""
        circuits = [sample_circuit(97, [0, 1], 1), sample_circuit(97, [1, 1], 2)]
        rows = [[5, 7]]
        outputs = [true_outputs(circuit, rows) for circuit in circuits]
        outputs[1][0][1] = (outputs[1][0][1] + 1) % 97
        throws = Numbers(3).many(bundle_throws(circuits, 0), 97)
        # At this point of layer 0 of the second circuit its column 1 does not matter.
        throws[throw_count(circuits[0], 0)] = 0
        told = bundle_answers(circuits, rows, throws)
        self.assertEqual(judge_bundle(circuits, rows, outputs, throws, told), ("believed",))
        self.assertEqual(bundle_blame(circuits, rows, outputs, throws, told), ("circuit", 1, ("outputs",)))

    def test_the_honest_answers_are_those_of_answers(self):
        told = bundle_answers([A, B], [[5, 7]], DICE)
        self.assertEqual(told[0], [answers(Answerer(A, [[5, 7]]), DICE[:3]), answers(Answerer(B, [[5, 7]]), DICE[3:6])])


if __name__ == "__main__":
    unittest.main()
