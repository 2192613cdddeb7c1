"""Points 25.1 to 25.6: circuits whose layers are told by rules."""

import time
import unittest
from copy import deepcopy
from itertools import product

from layerask.answering import Answerer, answers
from layerask.asking import judge, play
from layerask.blame import blame
from layerask.bluffing import Bluffer, Guesser
from layerask.circuits import checked, run
from layerask.counts import most_believed, plan, share, throws as throws_of, told_work
from layerask.errors import CircuitError, FieldError, SizeError, TalkError
from layerask.regular import (RegularAnswerer, RegularQuestions, blame_regular, checked_regular, explicit, inner_circuit, judge_regular,
                              product_circuit, regular, regular_answers, regular_weights, regular_work, run_regular,
                              sum_circuit, transform_circuit)
from plain import GREATEST, Numbers, kept, plain_answers, plain_weights, raised, sample_rows, throw_count, true_outputs, unshared

LIN = ("lin", 5, 3)
MUL = ("mul", 2)

# The bits of the rows, those of layer 0, and the rules.
SHAPES = ((0, 0, [("pairs", LIN)]), (1, 0, [("same", MUL), ("pairs", MUL)]), (0, 1, [("cross", 0, LIN, ("lin", 4, 1)), ("halves", MUL)]),
          (1, 1, [("halves", LIN), ("cross", 1, MUL, ("mul", 3)), ("same", LIN)]), (2, 0, [("pairs", LIN), ("halves", MUL)]),
          (0, 2, [("cross", 1, LIN, LIN), ("cross", 0, MUL, MUL), ("same", MUL), ("pairs", LIN)]), (1, 0, [("same", LIN)] * 3),
          (3, 0, [("halves", MUL), ("pairs", ("lin", 0, 1))]))


def moved(op, p):
    """An operation with numbers modulo p."""
    return (op[0],) + tuple(number % p for number in op[1:])


def sample(p, bits, rules):
    told = []
    for rule in rules:
        told.append(tuple(moved(part, p) if isinstance(part, tuple) else part for part in rule))
    return regular(p, bits, told)


def plain_gate(op, x, y):
    return ("lin", op[1], x, op[2], y) if op[0] == "lin" else ("mul", op[1], x, y)


def plain_gates(rule, bits):
    """Point 25.1."""
    found = []
    for g in range(2 ** bits):
        if rule[0] == "pairs":
            found.append(plain_gate(rule[1], 2 * g, 2 * g + 1))
        elif rule[0] == "halves":
            found.append(plain_gate(rule[1], g, g + 2 ** bits))
        elif rule[0] == "same":
            found.append(plain_gate(rule[1], g, g))
        elif g // 2 ** rule[1] % 2 == 0:
            found.append(plain_gate(rule[2], g, g + 2 ** rule[1]))
        else:
            found.append(plain_gate(rule[3], g, g - 2 ** rule[1]))
    return found


def plain_explicit(circuit):
    _, p, widths, rules = circuit
    return ("circuit", p, list(widths), [plain_gates(rule, bits) for rule, bits in zip(rules, widths)])


def every_rule(bits):
    yield ("pairs", LIN)
    yield ("pairs", MUL)
    yield ("halves", LIN)
    yield ("halves", MUL)
    yield ("same", LIN)
    yield ("same", MUL)
    for k in range(bits):
        yield ("cross", k, LIN, ("lin", 7, 1))
        yield ("cross", k, MUL, ("mul", 6))


def samples(moduli=(5, 97, GREATEST), shapes=SHAPES):
    for p in moduli:
        for seed, (dims, bits, rules) in enumerate(shapes):
            circuit = sample(p, bits, rules)
            yield circuit, sample_rows(circuit, dims, seed), dims, Numbers(seed + p)


class FormTest(unittest.TestCase):
    def test_widths(self):
        rules = [("same", MUL), ("pairs", MUL), ("cross", 0, MUL, MUL), ("halves", LIN)]
        self.assertEqual(kept(self, regular, 97, 2, rules), ("regular", 97, [2, 2, 3, 3, 4], rules))
        # Nothing else is checked.
        self.assertEqual(regular(4, 50, [("pairs", None)]), ("regular", 4, [50, 51], [("pairs", None)]))
        self.assertEqual(regular(4, 5, []), ("regular", 4, [5], []))

    def test_explicit(self):
        for bits in range(4):
            for rule in every_rule(bits):
                circuit = regular(97, bits, [rule])
                found = kept(self, explicit, circuit)
                self.assertEqual(found, plain_explicit(circuit))
                self.assertIs(checked(found), found)
                unshared(self, found, circuit)
        for circuit, _, _, _ in samples():
            self.assertEqual(explicit(circuit), plain_explicit(circuit))
        self.assertEqual(len(explicit(regular(97, 12, [("same", LIN)] * 2))[3][1]), 4096)


class CheckedTest(unittest.TestCase):
    """Point 25.2."""

    def wrong(self, kind, field, word, circuit):
        for function, rest in ((checked_regular, ()), (run_regular, (None,)), (judge_regular, (None, None, [], [])), (RegularAnswerer, (None,)),
                               (blame_regular, (None, None, [], [])), (regular_answers, (None, []))):
            raised(self, kind, field, word, function, circuit, *rest)

    def test_the_circuit_itself(self):
        for circuit, _, _, _ in samples():
            before = deepcopy(circuit)
            self.assertIs(checked_regular(circuit), circuit)
            self.assertEqual(circuit, before)

    def test_form(self):
        rules = [("same", MUL)]
        for circuit in (None, 5, "regular", [], (), ("regular",), ["regular", 97, [0, 0], rules], ("circuit", 97, [0, 0], rules), ("regular", 97, [0, 0]),
                        ("regular", 97, [0, 0], rules, 1), ("regular", "97", [0, 0], rules), ("regular", True, [0, 0], rules), ("regular", 97, (0, 0), rules),
                        ("regular", 97, [0, 0], tuple(rules)), ("regular", 97, None, rules), ("regular", 97, [0, 0], None), ("regular", 97, [0], []),
                        ("regular", 97, [0], rules), ("regular", 97, [0, 0, 0], rules), ("regular", 97, [0, -1], rules), ("regular", 97, [0, True], rules),
                        ("regular", 97, [0, None], rules), ("regular", 97, [0, 1000001], rules), ("regular", 4, [0, "0"], rules), ((), 97, [0, 0], rules)):
            self.wrong(CircuitError, "part", "regular", circuit)

    def test_limits(self):
        for p in (4, 0, 1, -7, 2147483649, 10 ** 30):
            self.wrong(FieldError, "number", p, ("regular", p, [0] * 66, [None] * 65))
        self.wrong(SizeError, "limit", "layers", ("regular", 97, [13] * 66, [None] * 65))
        self.wrong(SizeError, "limit", "columns", ("regular", 97, [13] * 65, [None] * 64))
        self.wrong(SizeError, "limit", "columns", ("regular", 97, [0, 1000000], [None]))
        self.wrong(SizeError, "limit", "columns", regular(97, 12, [("pairs", MUL)]))
        self.wrong(CircuitError, "part", "rule", ("regular", 97, [12] * 65, [None] * 64))
        checked_regular(regular(97, 12, [("same", LIN)] * 64))
        checked_regular(regular(97, 0, [("halves", LIN)] * 12))

    def test_rules(self):
        good = ("same", MUL)
        for rule in (None, 5, [], (), "same", ("same",), ["same", MUL], ("same", MUL, MUL), ("other", MUL), ("same", None), ("same", list(MUL)), ("same", ("mul",)),
                     ("same", ("mul", 2, 3)), ("same", ("mul", 97)), ("same", ("mul", -1)), ("same", ("mul", True)), ("same", ("lin", 1)), ("same", ("lin", 1, 97)),
                     ("same", ("lin", 1, 2, 3)), ("same", ("div", 1)), ("cross", MUL, MUL), ("cross", 0, MUL), ("cross", 2, MUL, MUL), ("cross", -1, MUL, MUL),
                     ("cross", True, MUL, MUL), ("cross", None, MUL, MUL), ("cross", 0, MUL, LIN), ("cross", 0, LIN, MUL), ("cross", 0, MUL, None),
                     ("cross", 0, ("mul", 97), MUL), ("cross", 0, MUL, ("lin", 1)), ("cross", 0, MUL, MUL, MUL), ({}, MUL),
                     ("other", 0, MUL, MUL), ("same", 0, MUL, MUL)):
            self.wrong(CircuitError, "part", "rule", ("regular", 97, [2, 2], [rule]))
            self.wrong(CircuitError, "part", "rule", ("regular", 97, [2, 2, 2], [good, rule]))
        # No bit of a single column.
        self.wrong(CircuitError, "part", "rule", ("regular", 97, [0, 0], [("cross", 0, MUL, MUL)]))

    def test_the_next_layer(self):
        for rule, up in ((("pairs", LIN), 1), (("halves", LIN), 1), (("same", LIN), 0), (("cross", 1, LIN, LIN), 0)):
            for bits in range(5):
                circuit = ("regular", 97, [2, bits], [rule])
                if bits == 2 + up:
                    checked_regular(circuit)
                else:
                    self.wrong(CircuitError, "part", "rule", circuit)


class WeightsTest(unittest.TestCase):
    """Point 25.4."""

    def test_they_are_those_of_the_gates(self):
        for p in (11, 97, GREATEST):
            for bits in range(4):
                for rule in every_rule(bits):
                    circuit = regular(p, bits, [rule])
                    for seed in range(3):
                        numbers = Numbers(seed)
                        g, x, y = numbers.many(bits, p), numbers.many(circuit[2][1], p), numbers.many(circuit[2][1], p)
                        found = kept(self, regular_weights, rule, g, x, y, p)
                        self.assertEqual(found, plain_weights(plain_explicit(circuit), 0, g, x, y))

    def test_at_the_corners(self):
        for bits in range(3):
            for rule in every_rule(bits):
                circuit = regular(11, bits, [rule])
                whole, after = plain_explicit(circuit), circuit[2][1]
                for g in product((0, 1), repeat=bits):
                    for x in product((0, 1), repeat=after):
                        for y in product((0, 1), repeat=after):
                            given = [list(g), list(x), list(y)]
                            self.assertEqual(regular_weights(rule, *given, 11), plain_weights(whole, 0, *given))

    def test_by_the_bits_alone(self):
        """Points of hundreds of numbers have weights, too."""
        for rule, up in ((("pairs", LIN), 1), (("halves", MUL), 1), (("same", LIN), 0), (("cross", 250, MUL, MUL), 0)):
            g, x, y = [2] * 300, [3] * (300 + up), [4] * (300 + up)
            self.assertEqual(len(regular_weights(rule, g, x, y, 97)), 3)


class RunTest(unittest.TestCase):
    """Point 25.3."""

    def test_tables(self):
        for circuit, rows, _, _ in samples():
            self.assertEqual(kept(self, run_regular, circuit, rows), run(plain_explicit(circuit), rows))

    def test_rows(self):
        circuit = regular(97, 0, [("pairs", LIN), ("same", MUL)])
        for rows in (None, [], [[1, 2]] * 3, ((1, 2),), {}):
            for function in (run_regular, RegularAnswerer):
                raised(self, CircuitError, "part", "rows", function, circuit, rows)
        for row in ([1], [1, 2, 3], [1, 97], [1, -1], [1, True], (1, 2), None):
            raised(self, CircuitError, "part", "rows", run_regular, circuit, [[1, 2], row])

    def test_how_many(self):
        """n plus the greatest width is at most 16, whatever layer has it."""
        narrow = regular(97, 0, [("same", LIN)])
        run_regular(narrow, [[1]] * 2 ** 16)
        raised(self, SizeError, "limit", "rows", run_regular, narrow, [None] * 2 ** 17)
        wide = regular(97, 0, [("pairs", LIN)] * 12)
        raised(self, SizeError, "limit", "rows", run_regular, wide, [None] * 32)
        raised(self, CircuitError, "part", "rows", run_regular, wide, [None] * 16)
        run_regular(wide, [[1] * 4096] * 16)
        raised(self, CircuitError, "part", "rows", run_regular, wide, [None] * 33)


class TalkTest(unittest.TestCase):
    """Point 25.5: conversations about a regular circuit are those about its explicit one."""

    def test_honest_ones(self):
        for circuit, rows, dims, numbers in samples():
            whole = plain_explicit(circuit)
            throws = numbers.many(throw_count(whole, dims), circuit[1])
            outputs = true_outputs(whole, rows)
            told = kept(self, regular_answers, circuit, rows, throws)
            self.assertEqual(told, answers(Answerer(whole, rows), throws))
            self.assertEqual(kept(self, judge_regular, circuit, rows, outputs, throws, told), ("believed",))
            self.assertIsNone(kept(self, blame_regular, circuit, rows, outputs, throws, told))

    def test_by_sums(self):
        for circuit, rows, dims, numbers in samples((97,), SHAPES[:5]):
            throws = numbers.many(throw_count(circuit, dims), 97)
            self.assertEqual(regular_answers(circuit, rows, throws), plain_answers(plain_explicit(circuit), rows, throws))

    def test_the_answerer(self):
        for circuit, rows, dims, numbers in samples((97,)):
            answerer = kept(self, RegularAnswerer, circuit, rows)
            other = Answerer(plain_explicit(circuit), rows)
            self.assertIsInstance(answerer, Answerer)
            self.assertEqual((answerer.circuit, answerer.bits, answerer.p, answerer.steps), (circuit, dims, 97, 0))
            unshared(self, answerer.circuit, circuit)
            self.assertEqual(answerer.outputs(), other.outputs())
            answerer.outputs().clear()
            self.assertEqual(answerer.outputs(), other.outputs())
            throws = numbers.many(throw_count(circuit, dims), 97)
            self.assertEqual(answers(answerer, throws), answers(other, throws))
            self.assertEqual(answerer.steps, other.steps)

    def test_changed_answers_and_false_claims(self):
        places = set()
        for circuit, rows, dims, numbers in samples((5, 97)):
            p, whole = circuit[1], plain_explicit(circuit)
            outputs = true_outputs(whole, rows)
            for again in range(12):
                throws = numbers.many(throw_count(circuit, dims), p)
                told = regular_answers(circuit, rows, throws)
                polys, line = told[numbers.below(len(told))]
                changed = (polys + [line])[numbers.below(len(polys) + 1)]
                changed[numbers.below(len(changed))] = numbers.below(p)
                wrong = [list(row) for row in outputs]
                wrong[-1][0] = (wrong[-1][0] + again % 2) % p
                result = judge_regular(circuit, rows, wrong, throws, told)
                self.assertEqual(result, judge(whole, rows, wrong, throws, told))
                self.assertEqual(blame_regular(circuit, rows, wrong, throws, told), blame(whole, rows, wrong, throws, told))
                places.add(result[-1])
        self.assertLessEqual({"believed", 0, 1, "end"}, places)

    def test_bluffers(self):
        kinds = set()
        for circuit, rows, dims, numbers in samples((5, 97)):
            p, whole = circuit[1], plain_explicit(circuit)
            outputs = true_outputs(whole, rows)
            outputs[0][-1] = (outputs[0][-1] + 1) % p
            table = [row[at] for at in range(len(outputs[0])) for row in outputs]
            for again in range(40):
                throws = numbers.many(throw_count(circuit, dims), p)
                kind = Guesser if again % 2 else Bluffer
                told = answers(kind(whole, rows, table, numbers.many(15, p)), throws)
                result = judge_regular(circuit, rows, outputs, throws, told)
                self.assertEqual(result, judge(whole, rows, outputs, throws, told))
                place = blame_regular(circuit, rows, outputs, throws, told)
                self.assertEqual(place, blame(whole, rows, outputs, throws, told))
                self.assertEqual(place is not None, result == ("believed",))
                kinds.add(place and place[0])
        self.assertEqual({None, "outputs", "round", "line"}, kinds)

    def test_all_throws(self):
        circuit = regular(5, 0, [("pairs", ("mul", 2))])
        rows, believed = [[3, 4]], 0
        whole = plain_explicit(circuit)
        for throws in product(range(5), repeat=throws_of(circuit, 0)):
            told = regular_answers(circuit, rows, list(throws))
            self.assertEqual(judge_regular(circuit, rows, [[4]], list(throws), told), ("believed",))
            bluff = answers(Bluffer(whole, rows, [1], [1, 2, 3]), list(throws))
            result = judge_regular(circuit, rows, [[1]], list(throws), bluff)
            self.assertEqual(blame_regular(circuit, rows, [[1]], list(throws), bluff) is not None, result == ("believed",))
            believed += result == ("believed",)
        self.assertLessEqual(0 < believed, believed <= most_believed(circuit, 0))


class CountsTest(unittest.TestCase):
    def test_counts(self):
        for circuit, _, _, _ in samples():
            whole = plain_explicit(circuit)
            for dims in range(4):
                for function in (plan, throws_of, share, most_believed, told_work):
                    self.assertEqual(kept(self, function, circuit, dims), function(whole, dims))
                widths = circuit[2]
                less = sum(2 ** bits - bits - 1 for bits in widths[:-1])
                self.assertEqual(kept(self, regular_work, circuit, dims), told_work(whole, dims) - less)

    def test_the_work_of_an_asker(self):
        for circuit, rows, dims, numbers in samples((97,)):
            throws = numbers.many(throws_of(circuit, dims), 97)
            told = regular_answers(circuit, rows, throws)
            inputs = [row[at] for at in range(len(rows[0])) for row in rows]
            asker = RegularQuestions(circuit, dims, inputs, RegularAnswerer(circuit, rows).outputs())
            self.assertEqual(play(asker, throws, told), ("believed",))
            self.assertEqual(asker.work, regular_work(circuit, dims))

    def test_work_by_the_bits(self):
        """One bit more in all layers adds little work but for the tables."""
        small, large = transform_circuit(97, 11), transform_circuit(97, 12)
        self.assertLess(regular_work(large, 0) - 2 ** 13 - (regular_work(small, 0) - 2 ** 12), 400)
        self.assertEqual(regular_work(inner_circuit(97, 1), 0), 31)


class ErrorsTest(unittest.TestCase):
    def wrong(self, kind, field, word, **changes):
        circuit = regular(97, 0, [("pairs", LIN)])
        told = dict(circuit=circuit, rows=[[3, 4]], outputs=[[27]], throws=[1, 2, 3], told=regular_answers(circuit, [[3, 4]], [1, 2, 3]))
        self.assertEqual(judge_regular(*told.values()), ("believed",))
        told.update(changes)
        for function in (judge_regular, blame_regular):
            raised(self, kind, field, word, function, *told.values())

    def test_modulus(self):
        for p, bits, rules in ((2, 0, [("same", ("lin", 1, 1))]), (3, 0, [("same", ("lin", 1, 1))]), (5, 4, [("pairs", ("lin", 1, 1))]), (7, 7, [("same", ("lin", 1, 1))]),
                               (11, 0, [("pairs", ("lin", 1, 1))] * 11)):
            self.wrong(CircuitError, "part", "modulus", circuit=regular(p, bits, rules), rows=None, outputs=None)
        self.wrong(CircuitError, "part", "rows", circuit=regular(7, 6, [("same", ("lin", 1, 1))]), rows=None)

    def test_rows_and_outputs(self):
        for rows in (None, [], [[1, 2]] * 3, [[1]], [[1, 97]]):
            self.wrong(CircuitError, "part", "rows", rows=rows, outputs=None)
        self.wrong(SizeError, "limit", "rows", rows=[None] * 2 ** 16, outputs=None)
        for outputs in (None, [], [[27], [27]], [[97]], [[27, 0]], [[]], [[True]], [(27,)], ([27],)):
            self.wrong(CircuitError, "part", "outputs", outputs=outputs, throws=[])

    def test_throws_and_answers(self):
        for throws in ([], [1, 2], [1, 2, 3, 4]):
            self.wrong(TalkError, "step", "throws", throws=throws, told=[])
        for at in range(3):
            for number in (-1, 97):
                throws = [1, 2, 3]
                throws[at] = number
                # It matters even if it is not taken.
                self.wrong(TalkError, "step", "throw", throws=throws, told=[])
                self.wrong(TalkError, "step", "throw", throws=throws, outputs=[[28]])
        polys, line = regular_answers(regular(97, 0, [("pairs", LIN)]), [[3, 4]], [1, 2, 3])[0]
        for told in ([], [(polys, line)] * 2, [(polys[:1], line)], [(polys + [[1, 2, 3]], line)], [([], line)]):
            self.wrong(TalkError, "step", "answers", told=told)
            self.wrong(TalkError, "step", "answers", told=told, outputs=[[28]])


class CircuitsTest(unittest.TestCase):
    """Point 25.6."""

    def test_forms(self):
        self.assertEqual(sum_circuit(97, 3), ("regular", 97, [0, 1, 2, 3], [("pairs", ("lin", 1, 1))] * 3))
        self.assertEqual(product_circuit(97, 2), ("regular", 97, [0, 1, 2], [("pairs", ("mul", 1))] * 2))
        self.assertEqual(inner_circuit(97, 0), ("regular", 97, [0, 1], [("halves", ("mul", 1))]))
        self.assertEqual(inner_circuit(97, 2), ("regular", 97, [0, 1, 2, 3], [("pairs", ("lin", 1, 1))] * 2 + [("halves", ("mul", 1))]))
        self.assertEqual(transform_circuit(97, 2), ("regular", 97, [2, 2, 2], [("cross", k, ("lin", 1, 1), ("lin", 96, 1)) for k in range(2)]))

    def test_outputs(self):
        for p in (2, 5, 97, GREATEST):
            for bits in range(6):
                numbers = Numbers(bits).many(2 ** bits, p)
                others = Numbers(bits + 50).many(2 ** bits, p)
                self.assertEqual(run_regular(inner_circuit(p, bits), [numbers + others])[0], [sum(x * y for x, y in zip(numbers, others)) % p])
                if bits > 0:
                    multiplied = 1
                    for number in numbers:
                        multiplied = multiplied * number % p
                    self.assertEqual(run_regular(sum_circuit(p, bits), [numbers])[0], [sum(numbers) % p])
                    self.assertEqual(run_regular(product_circuit(p, bits), [numbers])[0], [multiplied])
                    expected = [sum(number * (-1) ** bin(g & h).count("1") for h, number in enumerate(numbers)) % p for g in range(2 ** bits)]
                    self.assertEqual(run_regular(transform_circuit(p, bits), [numbers])[0], expected)


class WideTest(unittest.TestCase):
    """Layers with up to 2^12 columns."""

    def test_conversations(self):
        p = GREATEST
        for circuit, dims in ((sum_circuit(p, 12), 2), (product_circuit(p, 12), 0), (inner_circuit(p, 11), 1), (transform_circuit(p, 12), 0),
                              (transform_circuit(p, 10), 2), (regular(p, 12, [("same", MUL), ("cross", 11, LIN, LIN)]), 4)):
            rows = sample_rows(circuit, dims, dims)
            answerer = RegularAnswerer(circuit, rows)
            table = answerer.outputs()
            outputs = [table[at::len(rows)] for at in range(len(rows))]
            throws = Numbers(dims).many(throws_of(circuit, dims), p)
            told = answers(answerer, throws)
            start = time.perf_counter()
            self.assertEqual(judge_regular(circuit, rows, outputs, throws, told), ("believed",))
            outputs[-1][0] = (outputs[-1][0] + 1) % p
            self.assertEqual(judge_regular(circuit, rows, outputs, throws, told), ("refused", 0, 0))
            self.assertLess(time.perf_counter() - start, 10)


if __name__ == "__main__":
    unittest.main()
