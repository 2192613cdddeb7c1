"""Points 9.1 to 9.6: the honest answerer."""

import unittest

from layerask.answering import Answerer, answers, rounds_of
from layerask.circuits import run
from layerask.errors import CircuitError, FieldError, SizeError
from plain import (GREATEST, Numbers, kept, plain_answers, plain_line, plain_poly, raised, run_by_rows, sample_circuit,
                   sample_rows, split_throws, throw_count, unshared)

SHAPES = ((0, [0, 0]), (1, [0, 0]), (2, [1, 0]), (0, [0, 1]), (0, [2, 1]), (1, [1, 1]), (2, [0, 1]), (1, [1, 2]),
          (0, [1, 2, 1]), (1, [0, 1, 0]), (0, [0, 0, 0, 0]), (3, [1, 0, 0]))


def samples(moduli=(5, 97, GREATEST)):
    for p in moduli:
        for seed, (dims, widths) in enumerate(SHAPES):
            circuit = sample_circuit(p, widths, seed)
            rows = sample_rows(circuit, dims, seed)
            throws = Numbers(seed).many(throw_count(circuit, dims), p)
            yield circuit, rows, dims, throws


def layer_steps(circuit, dims, layer):
    """The steps of point 9.6 for a whole layer."""
    this, following = circuit[2][layer], circuit[2][layer + 1]
    return 4 * (2 ** dims - 1) * (2 ** this + 2 ** following) + 2 * 2 ** this + 6 * (2 ** following - 1)


class AnswererTest(unittest.TestCase):
    def test_fields(self):
        for circuit, rows, dims, _ in samples():
            answerer = kept(self, Answerer, circuit, rows)
            self.assertEqual((answerer.circuit, answerer.bits, answerer.p), (circuit, dims, circuit[1]))
            self.assertEqual(answerer.steps, 0)
            table = answerer.outputs()
            self.assertEqual(table, run_by_rows(circuit, rows)[0])
            table[0] = -1
            self.assertEqual(answerer.outputs(), run(circuit, rows)[0])
            self.assertEqual(answerer.steps, 0)

    def test_errors(self):
        circuit = sample_circuit(97, [0, 1], 1)
        raised(self, CircuitError, "part", "circuit", Answerer, None, None)
        raised(self, FieldError, "number", 4, Answerer, ("circuit",  4) + circuit[2:], [])
        raised(self, SizeError, "limit", "columns", Answerer, ("circuit", 97, [9, 0], [None]), [])
        raised(self, CircuitError, "part", "rows", Answerer, circuit, [])
        raised(self, SizeError, "limit", "rows", Answerer, circuit, [[0, 0]] * 2048)
        raised(self, CircuitError, "part", "row", Answerer, circuit, [[0, 97]])

    def test_polynomials_and_lines(self):
        for circuit, rows, dims, throws in samples((5, 97)):
            tables = run_by_rows(circuit, rows)
            answerer = Answerer(circuit, rows)
            for layer, (point, thrown, t) in enumerate(split_throws(circuit, dims, throws)):
                table = tables[layer + 1]
                self.assertIsNone(kept(self, answerer.begin, layer, point))
                for k, number in enumerate(thrown):
                    expected = plain_poly(circuit, table, layer, dims, point, thrown[:k])
                    self.assertEqual(answerer.poly(), expected)
                    self.assertIsNone(answerer.throw(number))
                self.assertEqual(answerer.line(), plain_line(circuit, table, layer, dims, thrown))
                self.assertIsNone(answerer.throw(t))

    def test_lengths(self):
        for circuit, rows, dims, throws in samples((GREATEST,)):
            for layer, (polys, line) in enumerate(answers(Answerer(circuit, rows), throws)):
                bits = circuit[2][layer + 1]
                self.assertEqual([len(poly) for poly in polys], [4] * dims + [3] * (2 * bits))
                self.assertEqual(len(line), bits + 1)

    def test_more_dimensions(self):
        """Rounds of three variables each: the order of the variables and the halving are seen."""
        circuit = sample_circuit(7, [1, 3], 8)
        rows = sample_rows(circuit, 1, 8)
        throws = Numbers(8).many(throw_count(circuit, 1), 7)
        self.assertEqual(answers(Answerer(circuit, rows), throws), plain_answers(circuit, rows, throws))
        circuit = sample_circuit(7, [2, 1], 9)
        rows = sample_rows(circuit, 3, 9)
        throws = Numbers(9).many(throw_count(circuit, 3), 7)
        self.assertEqual(answers(Answerer(circuit, rows), throws), plain_answers(circuit, rows, throws))

    def test_answers(self):
        for circuit, rows, _, throws in samples():
            told = kept(self, lambda *arguments: answers(Answerer(*arguments[:2]), arguments[2]), circuit, rows, throws)
            self.assertEqual(told, plain_answers(circuit, rows, throws))
            self.assertTrue(all(isinstance(pair, tuple) for pair in told))

    def test_rounds_of(self):
        circuit = sample_circuit(97, [3, 0, 2], 1)
        self.assertEqual([rounds_of(circuit, bits, layer) for bits in (0, 3) for layer in (0, 1)], [0, 4, 3, 7])
        kept(self, rounds_of, circuit, 2, 1)

    def test_throws_at_corners(self):
        """Throws of 0 and 1 keep single gates and columns alone."""
        for seed in range(8):
            circuit = sample_circuit(97, [1, 2], seed)
            rows = sample_rows(circuit, 1, seed)
            throws = Numbers(seed).many(throw_count(circuit, 1), 2)
            self.assertEqual(answers(Answerer(circuit, rows), throws), plain_answers(circuit, rows, throws))

    def test_later_changes_do_not_count(self):
        circuit, rows, _, throws = list(samples())[7]
        expected = plain_answers(circuit, rows, throws)
        answerer = Answerer(circuit, rows)
        point = throws[:2]
        answerer.begin(0, point)
        point[0] = (point[0] + 1) % 5
        rows[0][0] = (rows[0][0] + 1) % 5
        circuit[3][0][0] = ("mul", 3, 0, 0)
        circuit[2][1] = 0
        first = answerer.poly()
        self.assertEqual(first, expected[0][0][0])
        first[0] = -1
        self.assertEqual(answers(answerer, throws), expected)


class Recorder:
    """An answerer that notes what it is asked."""

    def __init__(self, circuit, bits):
        self.circuit, self.bits, self.p, self.calls = circuit, bits, circuit[1], []

    def begin(self, layer, point):
        self.calls.append(("begin", layer, list(point)))

    def poly(self):
        self.calls.append(("poly",))
        return [len(self.calls)]

    def throw(self, number):
        self.calls.append(("throw", number))

    def line(self):
        self.calls.append(("line",))
        return [len(self.calls), 0]


class OrderTest(unittest.TestCase):
    def test_how_an_answerer_is_asked(self):
        for circuit, _, dims, throws in samples((97,)):
            answerer = Recorder(circuit, dims)
            told = answers(answerer, throws)
            expected, said = [], []
            for layer, (point, thrown, t) in enumerate(split_throws(circuit, dims, throws)):
                expected.append(("begin", layer, point))
                polys = []
                for number in thrown:
                    expected.append(("poly",))
                    polys.append([len(expected)])
                    expected.append(("throw", number))
                expected.append(("line",))
                said.append((polys, [len(expected), 0]))
                expected.append(("throw", t))
            self.assertEqual(answerer.calls, expected)
            self.assertEqual(told, said)


class AgainTest(unittest.TestCase):
    def test_a_layer_is_begun_again(self):
        for circuit, rows, dims, throws in samples((97,)):
            answerer = Answerer(circuit, rows)
            expected = answers(answerer, throws)
            for stop in range(5):
                for layer, (point, thrown, _) in enumerate(split_throws(circuit, dims, throws)):
                    answerer.begin(layer, point)
                    for number in thrown[:stop]:
                        answerer.poly()
                        answerer.throw(number)
            self.assertEqual(answers(answerer, throws), expected)

    def test_any_layer_and_point(self):
        circuit, rows = sample_circuit(97, [1, 0, 2], 3), [[1, 2, 3, 4], [5, 6, 7, 8]]
        tables = run_by_rows(circuit, rows)
        answerer = Answerer(circuit, rows)
        answerer.begin(1, [5])
        self.assertEqual(answerer.poly(), plain_poly(circuit, tables[2], 1, 1, [5], []))
        answerer.begin(0, [5, 7])
        self.assertEqual(answerer.poly(), plain_poly(circuit, tables[1], 0, 1, [5, 7], []))


class StepsTest(unittest.TestCase):
    def test_whole_layers(self):
        for circuit, rows, dims, throws in samples((97,)):
            answerer = Answerer(circuit, rows)
            answers(answerer, throws)
            layers = range(len(circuit[3]))
            self.assertEqual(answerer.steps, sum(layer_steps(circuit, dims, layer) for layer in layers))

    def test_place_by_place(self):
        for dims, this, following in ((0, 0, 0), (0, 2, 0), (1, 0, 0), (2, 1, 0), (0, 0, 1), (2, 1, 2), (1, 2, 1), (0, 1, 3)):
            circuit = sample_circuit(97, [this, following], 3)
            rows = sample_rows(circuit, dims, 3)
            gates, columns = 2 ** this, 2 ** following
            answerer = Answerer(circuit, rows)
            expected = 0

            def entered(done):
                """The steps when the rounds of x or y begin behind so many rounds."""
                return gates * ((done == dims) + (done == dims + following))

            answerer.begin(0, [3] * (dims + this))
            expected += entered(0)
            self.assertEqual(answerer.steps, expected)
            for k in range(dims + 2 * following):
                answerer.poly()
                if k < dims:
                    expected += 4 * 2 ** (dims - 1 - k) * (gates + columns)
                else:
                    expected += 3 * 2 ** (following - 1 - (k - dims) % following)
                self.assertEqual(answerer.steps, expected)
                answerer.throw(5)
                expected += entered(k + 1)
                self.assertEqual(answerer.steps, expected)
            answerer.line()
            answerer.throw(6)
            self.assertEqual(answerer.steps, expected)
            self.assertEqual(answerer.steps, layer_steps(circuit, dims, 0))

    def test_a_layer_that_is_begun_again_counts_again(self):
        circuit = sample_circuit(97, [2, 0], 3)
        answerer = Answerer(circuit, [[5]])
        answerer.begin(0, [1, 2])
        answerer.begin(0, [1, 2])
        self.assertEqual(answerer.steps, 16)


class SharingTest(unittest.TestCase):
    def test_results_share_no_list(self):
        for circuit, rows, dims, throws in samples((97,)):
            answerer = Answerer(circuit, rows)
            parts = split_throws(circuit, dims, throws)
            expected = plain_line(circuit, run_by_rows(circuit, rows)[1], 0, dims, parts[0][1])
            answerer.begin(0, parts[0][0])
            found = []
            for number in parts[0][1]:
                poly = answerer.poly()
                found.append(poly)
                poly[0] = -1
                answerer.throw(number)
            line = answerer.line()
            self.assertEqual(line, expected)
            line[0] = -1
            self.assertEqual(answerer.line(), expected)
            unshared(self, found, [rows, circuit, throws])


if __name__ == "__main__":
    unittest.main()
