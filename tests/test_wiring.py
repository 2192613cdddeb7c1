"""Points 7.1 and 7.2: the weights of a layer."""

import unittest

from layerask.cubes import point_table
from layerask.wiring import weights, weights_by
from plain import GREATEST, Numbers, corner, gate_value, kept, plain_weights, sample_circuit, table_value

WIDTHS = ([0, 0], [0, 1], [1, 0], [2, 1], [1, 2], [3, 2])


class WeightsTest(unittest.TestCase):
    def test_against_the_gates(self):
        for p in (2, 3, 97, GREATEST):
            for seed, widths in enumerate(WIDTHS):
                circuit = sample_circuit(p, widths, seed)
                numbers = Numbers(seed)
                for _ in range(4):
                    g = numbers.many(widths[0], p)
                    x, y = numbers.many(widths[1], p), numbers.many(widths[1], p)
                    expected = plain_weights(circuit, 0, g, x, y)
                    found = kept(self, weights, circuit[3][0], g, x, y, p)
                    self.assertEqual(found, expected)
                    self.assertIs(type(found), tuple)

    def test_by_tables(self):
        p = 97
        for seed, widths in enumerate(WIDTHS):
            circuit = sample_circuit(p, widths, seed)
            numbers = Numbers(seed)
            g, x, y = numbers.many(widths[0], p), numbers.many(widths[1], p), numbers.many(widths[1], p)
            near = [point_table(point, p) for point in (g, x, y)]
            found = kept(self, weights_by, circuit[3][0], *near, p)
            self.assertEqual(found, plain_weights(circuit, 0, g, x, y))

    def test_each_gate_counts_at_its_corners(self):
        gates = [("lin", 5, 0, 3, 1), ("mul", 2, 1, 0)]
        found = {}
        for k in range(8):
            g, x, y = [[bit] for bit in corner(k, 3)]
            found[(g[0], x[0], y[0])] = weights(gates, g, x, y, 97)
        self.assertEqual(found.pop((0, 0, 1)), (5, 3, 0))
        self.assertEqual(found.pop((1, 1, 0)), (0, 0, 2))
        self.assertEqual(set(found.values()), {(0, 0, 0)})

    def test_degree_one_in_each_number(self):
        p = 97
        circuit = sample_circuit(p, [2, 2], 4)
        numbers = Numbers(5)
        for at in range(6):
            point = numbers.many(6, p)
            found = []
            for t in range(4):
                point[at] = t
                found.append(weights(circuit[3][0], point[:2], point[2:4], point[4:], p))
            for which in range(3):
                steps = {(found[t + 1][which] - found[t][which]) % p for t in range(3)}
                self.assertEqual(len(steps), 1)

    def test_the_value_of_the_layer(self):
        for p in (2, 97, GREATEST):
            for seed, widths in enumerate(WIDTHS):
                circuit = sample_circuit(p, widths, seed)
                numbers = Numbers(seed + 20)
                inputs = numbers.many(2 ** widths[1], p)
                outputs = [gate_value(gate, inputs, p) for gate in circuit[3][0]]
                g = numbers.many(widths[0], p)
                total = 0
                for k, first in enumerate(inputs):
                    for j, second in enumerate(inputs):
                        x, y = corner(k, widths[1]), corner(j, widths[1])
                        a, b, c = weights(circuit[3][0], g, x, y, p)
                        total += a * first + b * second + c * first * second
                self.assertEqual(total % p, table_value(outputs, g, p))


if __name__ == "__main__":
    unittest.main()
