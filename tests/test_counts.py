"""Points 11.1 to 11.3: what a conversation takes."""

import unittest

from layerask.answering import Answerer, answers
from layerask.counts import most_believed, plan, share, throws, told_work
from plain import GREATEST, kept, sample_circuit, sample_rows, throw_count

SHAPES = ((0, [0, 0]), (0, [3, 0]), (1, [0, 1]), (2, [1, 2, 0, 3]), (10, [2, 1]), (0, [8, 8]), (3, [0] * 65))


class CountsTest(unittest.TestCase):
    def test_plan(self):
        for dims, widths in SHAPES:
            circuit = sample_circuit(97, widths, 1)
            expected = []
            for bits in widths[1:]:
                expected += [3] * dims + [2] * bits + [2] * bits + [bits]
            self.assertEqual(kept(self, plan, circuit, dims), expected)

    def test_plan_of_two_layers(self):
        circuit = sample_circuit(97, [1, 2, 0], 1)
        self.assertEqual(plan(circuit, 1), [3, 2, 2, 2, 2, 2, 3, 0])

    def test_plan_is_that_of_the_answers(self):
        for dims, widths in SHAPES[:4]:
            circuit = sample_circuit(97, widths, 1)
            told = answers(Answerer(circuit, sample_rows(circuit, dims, 1)), [5] * throws(circuit, dims))
            lengths = [len(values) for polys, line in told for values in polys + [line]]
            self.assertEqual([length - 1 for length in lengths], plan(circuit, dims))

    def test_throws_and_share(self):
        for dims, widths in SHAPES:
            circuit = sample_circuit(97, widths, 1)
            self.assertEqual(kept(self, throws, circuit, dims), throw_count(circuit, dims))
            expected = dims + widths[0] + sum(3 * dims + 4 * bits + bits for bits in widths[1:])
            self.assertEqual(kept(self, share, circuit, dims), expected)

    def test_most_believed(self):
        for p in (5, 97, GREATEST):
            for dims, widths in SHAPES:
                circuit = sample_circuit(p, widths, 1)
                number, told = throw_count(circuit, dims), share(circuit, dims)
                expected = min(p ** number, told * p ** number // p)
                self.assertEqual(kept(self, most_believed, circuit, dims), expected)
        self.assertEqual(most_believed(sample_circuit(5, [0, 0], 1), 0), 0)
        self.assertEqual(most_believed(sample_circuit(5, [0, 1], 1), 1), 5 ** 5)
        self.assertEqual(most_believed(sample_circuit(97, [3, 0], 1), 0), 3 * 97 ** 3)

    def test_told_work(self):
        for dims, widths in SHAPES:
            circuit = sample_circuit(97, widths, 1)
            tables = 2 ** dims * (2 ** widths[0] + 2 ** widths[-1])
            values = sum(4 * dims + 6 * bits + bits + 1 for bits in widths[1:])
            columns = sum(2 ** bits for bits in widths[:-1])
            self.assertEqual(kept(self, told_work, circuit, dims), tables + values + columns)


if __name__ == "__main__":
    unittest.main()
