"""Points 0.7, 0.8 and 0.10: whole conversations about circuits of several shapes."""

import unittest
from itertools import product

from layerask.answering import Answerer, answers
from layerask.asking import Asker, judge
from layerask.blame import blame
from layerask.counts import throws as throws_of, told_work
from plain import GREATEST, Numbers, plain_answers, sample_circuit, sample_rows, throw_count, true_outputs


def honest_talk(circuit, rows, throws):
    return answers(Answerer(circuit, rows), throws)


class HonestTest(unittest.TestCase):
    def test_all_inputs_and_all_throws(self):
        for seed in range(3):
            circuit = sample_circuit(5, [0, 1], seed)
            for row in product(range(5), repeat=2):
                rows = [list(row)]
                outputs = true_outputs(circuit, rows)
                for throws in product(range(5), repeat=3):
                    told = honest_talk(circuit, rows, list(throws))
                    self.assertEqual(judge(circuit, rows, outputs, list(throws), told), ("believed",))

    def test_all_throws_with_two_rows(self):
        for widths, seed in (([0, 1], 4), ([1, 0], 5), ([0, 0, 0], 6)):
            circuit = sample_circuit(5, widths, seed)
            rows = sample_rows(circuit, 1, seed)
            outputs = true_outputs(circuit, rows)
            for throws in product(range(5), repeat=throw_count(circuit, 1)):
                told = honest_talk(circuit, rows, list(throws))
                self.assertEqual(judge(circuit, rows, outputs, list(throws), told), ("believed",))
                self.assertIsNone(blame(circuit, rows, outputs, list(throws), told))

    def test_many_shapes(self):
        numbers = Numbers(1)
        for p in (5, 7, 97, 65537, GREATEST):
            for seed in range(25):
                dims = numbers.below(4)
                widths = [numbers.below(4) for _ in range(2 + numbers.below(4))]
                circuit = sample_circuit(p, widths, seed)
                rows = sample_rows(circuit, dims, seed)
                throws = numbers.many(throws_of(circuit, dims), p)
                told = honest_talk(circuit, rows, throws)
                outputs = true_outputs(circuit, rows)
                self.assertEqual(judge(circuit, rows, outputs, throws, told), ("believed",))
                self.assertIsNone(blame(circuit, rows, outputs, throws, told))

    def test_the_largest_ones(self):
        for dims, widths in ((10, [0, 1]), (0, [8, 8]), (0, [0] * 65), (1, [0, 8, 0])):
            circuit = sample_circuit(GREATEST, widths, 3)
            rows = sample_rows(circuit, dims, 3)
            throws = Numbers(3).many(throws_of(circuit, dims), GREATEST)
            told = honest_talk(circuit, rows, throws)
            self.assertEqual(judge(circuit, rows, true_outputs(circuit, rows), throws, told), ("believed",))

    def test_throws_at_corners(self):
        for throws in product((0, 1), repeat=5):
            circuit = sample_circuit(5, [0, 1], 8)
            rows = sample_rows(circuit, 1, 8)
            told = honest_talk(circuit, rows, list(throws))
            self.assertEqual(told, plain_answers(circuit, rows, list(throws)))
            self.assertEqual(judge(circuit, rows, true_outputs(circuit, rows), list(throws), told), ("believed",))


class FalseTest(unittest.TestCase):
    def test_honest_answers_to_false_outputs(self):
        """They are believed just where both tables agree at the first point, and refused at once elsewhere."""
        for dims, widths, seed in ((0, [1, 0], 1), (1, [0, 1], 2), (1, [1, 0], 3)):
            circuit = sample_circuit(5, widths, seed)
            rows = sample_rows(circuit, dims, seed)
            outputs = true_outputs(circuit, rows)
            outputs[-1][-1] = (outputs[-1][-1] + 2) % 5
            numbers = Numbers(seed)
            many = throws_of(circuit, dims) - dims - widths[0]
            for first in product(range(5), repeat=dims + widths[0]):
                throws = list(first) + numbers.many(many, 5)
                told = honest_talk(circuit, rows, throws)
                result = judge(circuit, rows, outputs, throws, told)
                found = blame(circuit, rows, outputs, throws, told)
                # The tables differ at the last corner only.
                if 0 in first:
                    self.assertEqual((result, found), (("believed",), ("outputs",)))
                else:
                    place = 0 if dims + widths[1] > 0 else "end"
                    self.assertEqual((result, found), (("refused", 0, place), None))

    def test_a_false_line(self):
        """A line with another value where none is compared is refused in the next layer, or at the inputs."""
        circuit = sample_circuit(GREATEST, [1, 2, 2], 4)
        rows = sample_rows(circuit, 1, 4)
        outputs = true_outputs(circuit, rows)
        throws = Numbers(4).many(throws_of(circuit, 1), GREATEST)
        for layer, place in ((0, ("refused", 1, 0)), (1, ("refused", 2, "inputs"))):
            told = honest_talk(circuit, rows, throws)
            told[layer][1][2] = (told[layer][1][2] + 1) % GREATEST
            self.assertEqual(judge(circuit, rows, outputs, throws, told), place)
            self.assertIsNone(blame(circuit, rows, outputs, throws, told))

    def test_a_false_round(self):
        """A polynomial that fits but is not the honest one is refused in the next round, or at the line."""
        circuit = sample_circuit(GREATEST, [1, 1], 5)
        rows = sample_rows(circuit, 1, 5)
        outputs = true_outputs(circuit, rows)
        throws = Numbers(5).many(throws_of(circuit, 1), GREATEST)
        for at, place in enumerate((("refused", 0, 1), ("refused", 0, 2), ("refused", 0, "end"))):
            told = honest_talk(circuit, rows, throws)
            told[0][0][at][2] = (told[0][0][at][2] + 1) % GREATEST
            self.assertEqual(judge(circuit, rows, outputs, throws, told), place)


class WorkTest(unittest.TestCase):
    def test_work_of_many_rows(self):
        """The work grows with the rows times the inputs and outputs, not times the circuit."""
        circuit = sample_circuit(97, [0] + [6] * 10 + [0], 6)
        for dims in (0, 3, 6):
            rows = sample_rows(circuit, dims, 6)
            throws = Numbers(6).many(throws_of(circuit, dims), 97)
            told = honest_talk(circuit, rows, throws)
            asker = Asker(circuit, rows, true_outputs(circuit, rows))
            thrown = list(throws)
            said = [values for polys, line in told for values in polys + [line]]
            while asker.wants() != "nothing":
                if asker.wants() == "throw":
                    asker.throw(thrown.pop(0))
                else:
                    asker.answer(said.pop(0))
            self.assertEqual(asker.result, ("believed",))
            self.assertEqual(asker.work, told_work(circuit, dims))
            self.assertEqual(asker.work - 2 * 2 ** dims - 44 * dims, told_work(circuit, 0) - 2)


if __name__ == "__main__":
    unittest.main()
