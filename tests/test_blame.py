"""Points 0.8, 0.9 and 10.4: the blame for false claims that are believed."""

import unittest
from itertools import product

from layerask.answering import Answerer, answers
from layerask.asking import judge
from layerask.blame import blame
from layerask.counts import most_believed
from layerask.errors import CircuitError, SizeError, TalkError
from plain import (Numbers, bluff, kept, plain_blame, raised, sample_circuit, sample_rows, throw_count, true_outputs)


class AllThrowsTest(unittest.TestCase):
    """For small circuits modulo 5, all throws."""

    def believed(self, dims, widths, seed, place):
        """The number of throws with which false outputs are believed, and the kinds of their blames."""
        circuit = sample_circuit(5, widths, seed)
        rows = sample_rows(circuit, dims, seed)
        outputs = true_outputs(circuit, rows)
        outputs[place % len(outputs)][place % len(outputs[0])] += 1
        outputs = [[number % 5 for number in row] for row in outputs]
        many, kinds = 0, set()
        changes = Numbers(seed)
        for throws in product(range(5), repeat=throw_count(circuit, dims)):
            told = bluff(circuit, rows, outputs, list(throws), changes)
            found = blame(circuit, rows, outputs, list(throws), told)
            if judge(circuit, rows, outputs, list(throws), told) == ("believed",):
                self.assertEqual(found, plain_blame(circuit, rows, outputs, list(throws), told))
                self.assertIsInstance(found, tuple)
                many += 1
                kinds.add(found[0])
            else:
                self.assertIsNone(found)
        self.assertLessEqual(many, most_believed(circuit, dims))
        return many, kinds

    def test_small_circuits(self):
        found = set()
        for dims, widths, seed in ((0, [0, 0], 1), (0, [1, 0], 2), (1, [0, 0], 3), (0, [0, 1], 4), (0, [0, 0, 0], 5),
                                   (0, [1, 1], 6), (1, [1, 0], 7), (0, [0, 1], 8), (0, [2, 0, 0], 9)):
            many, kinds = self.believed(dims, widths, seed, seed)
            found |= kinds
            if max(widths) == 0 and dims == 0:
                self.assertEqual(many, 0)
        self.assertEqual(found, {"outputs", "round", "line"})


class BlameTest(unittest.TestCase):
    def samples(self, p):
        for seed, (dims, widths) in enumerate(((1, [1, 1]), (0, [0, 2, 1]), (2, [0, 1]), (1, [1, 2, 0]), (0, [2, 2]))):
            circuit = sample_circuit(p, widths, seed)
            rows = sample_rows(circuit, dims, seed)
            yield circuit, rows, dims, Numbers(seed)
        squares = [("mul", 1, 0, 0), ("lin", 1, 0, 1, 1)]
        circuit = ("circuit", p, [0, 1, 1, 0], [[("mul", 1, 0, 1)], squares, [("lin", 1, 0, 0, 0), ("lin", 2, 0, 0, 0)]])
        yield circuit, [[3]], 0, Numbers(9)

    def test_right_outputs_have_none(self):
        """Not even if the answers are not the honest ones."""
        for circuit, rows, dims, numbers in self.samples(5):
            outputs = true_outputs(circuit, rows)
            believed = 0
            for _ in range(60):
                throws = numbers.many(throw_count(circuit, dims), 5)
                honest = answers(Answerer(circuit, rows), throws)
                self.assertIsNone(kept(self, blame, circuit, rows, outputs, throws, honest))
                told = bluff(circuit, rows, outputs, throws, numbers)
                believed += judge(circuit, rows, outputs, throws, told) == ("believed",)
                self.assertIsNone(kept(self, blame, circuit, rows, outputs, throws, told))
            self.assertGreater(believed, 0)

    def test_false_outputs(self):
        places = {}
        for circuit, rows, dims, numbers in self.samples(5):
            for _ in range(500):
                outputs = true_outputs(circuit, rows)
                row = outputs[numbers.below(len(outputs))]
                at = numbers.below(len(row))
                row[at] = (row[at] + 1 + numbers.below(4)) % 5
                throws = numbers.many(throw_count(circuit, dims), 5)
                told = bluff(circuit, rows, outputs, throws, numbers)
                found = kept(self, blame, circuit, rows, outputs, throws, told)
                if judge(circuit, rows, outputs, throws, told) == ("believed",):
                    self.assertEqual(found, plain_blame(circuit, rows, outputs, throws, told))
                    places[found] = True
                else:
                    self.assertIsNone(found)
        self.assertIn(("outputs",), places)
        # Both kinds of places, in the first layer and in a later one.
        for kind in ("round", "line"):
            self.assertTrue({0, 1} <= {place[1] for place in places if place[0] == kind}, places)

    def test_the_first_place_is_named(self):
        """Two values of two outputs are equal at the first point; the rest is honest."""
        circuit = ("circuit", 97, [1, 0], [[("lin", 1, 0, 0, 0), ("lin", 2, 0, 0, 0)]])
        rows, outputs, throws = [[5]], [[5, 11]], [0, 30]
        told = answers(Answerer(circuit, rows), throws)
        self.assertEqual(judge(circuit, rows, outputs, throws, told), ("believed",))
        self.assertEqual(blame(circuit, rows, outputs, throws, told), ("outputs",))
        self.assertIsNone(blame(circuit, rows, [[5, 10]], throws, told))
        self.assertIsNone(blame(circuit, rows, outputs, [1, 30], told))

    def test_a_round(self):
        """A claim of 36 for 5 times 7 is kept alive, and the first throw hits the common point."""
        circuit = ("circuit", 97, [0, 1], [[("mul", 1, 0, 1)]])
        rows, outputs = [[5, 7]], [[36]]
        honest = [35, 0, 34]
        sent = [36, 0, 34]
        # The difference is (t - 1) (t - 2) / 2: it is 0 at 1 and at 2.
        for number, expected in ((1, ("round", 0, 0)), (2, ("round", 0, 0))):
            throws = [number, 4, 2]
            told = answers(Answerer(circuit, rows), throws)
            self.assertEqual(told[0][0][0], honest)
            told[0][0][0] = sent
            self.assertEqual(judge(circuit, rows, outputs, throws, told), ("believed",))
            self.assertEqual(blame(circuit, rows, outputs, throws, told), expected)
        throws = [3, 4, 2]
        told = answers(Answerer(circuit, rows), throws)
        told[0][0][0] = sent
        self.assertEqual(judge(circuit, rows, outputs, throws, told), ("refused", 0, 1))
        self.assertIsNone(blame(circuit, rows, outputs, throws, told))

    def test_errors(self):
        circuit = ("circuit", 97, [0, 1], [[("mul", 1, 0, 1)]])
        rows, outputs, throws = [[5, 7]], [[35]], [3, 4, 2]
        told = answers(Answerer(circuit, rows), throws)
        raised(self, CircuitError, "part", "circuit", blame, None, None, None, None, None)
        raised(self, CircuitError, "part", "modulus", blame, ("circuit", 3, [0, 1], circuit[3]), rows, outputs, throws, told)
        raised(self, SizeError, "limit", "rows", blame, circuit, [None] * 2048, outputs, throws, told)
        raised(self, CircuitError, "part", "outputs", blame, circuit, rows, [[97]], throws, told)
        raised(self, TalkError, "step", "throws", blame, circuit, rows, outputs, throws[:-1], told)
        raised(self, TalkError, "step", "answers", blame, circuit, rows, outputs, throws, [])
        raised(self, TalkError, "step", "throw", blame, circuit, rows, outputs, [3, 97, 2], told)


if __name__ == "__main__":
    unittest.main()
