"""Point 27.5: the values of large expressions."""

import unittest

from layerask.errors import SizeError, TextError
from layerask.largenodes import nodes_of
from layerask.largetext import parse_large
from layerask.largevalues import result_of, tables_of
from plain import GREATEST, Numbers, kept, unshared
from plainlarge import LargeSampler, PlainValues


def value(text, *inputs, p=97):
    return result_of(nodes_of(parse_large(f"field {p}\n{text}")), list(inputs))


class OperationsTest(unittest.TestCase):
    def test_entry_by_entry(self):
        u, v = [1, 2, 3, 4], [5, 6, 7, 96]
        two = "vector u 2\nvector v 2\nclaim "
        self.assertEqual(value(two + "u + v", u, v), [6, 8, 10, 3])
        self.assertEqual(value(two + "u - v", u, v), [93, 93, 93, 5])
        self.assertEqual(value(two + "u * v", u, v), [5, 12, 21, 93])
        self.assertEqual(value(two + "3 * v", u, v), [15, 18, 21, 94])
        self.assertEqual(value(two + "v * 3", u, v), [15, 18, 21, 94])
        self.assertEqual(value(two + "-v", u, v), [92, 91, 90, 1])
        self.assertEqual(value("number a\nnumber b\nclaim a * b - a", [10], [20]), [93])

    def test_sums_and_products(self):
        u, m = [1, 2, 3, 4], [1, 2, 3, 4, 5, 6, 7, 80]
        self.assertEqual(value("vector u 2\nclaim dot(u, u)", u), [30])
        self.assertEqual(value("vector u 2\nclaim sum(u)", u), [10])
        self.assertEqual(value("matrix m 1 2\nclaim sum(m)", m), [11])
        self.assertEqual(value("vector u 3\nclaim product(u)", m), [720 * 7 * 80 % 97])
        self.assertEqual(value("vector u 0\nclaim product(u) + sum(u) * dot(u, u)", [5]), [5 + 125 - 97])

    def test_matrices(self):
        # The rows are 1 3 5 7 and 2 4 6 8.
        m = [1, 2, 3, 4, 5, 6, 7, 8]
        self.assertEqual(value("matrix m 1 2\nclaim transpose(m)", m), [1, 3, 5, 7, 2, 4, 6, 8])
        self.assertEqual(value("matrix m 1 2\nvector u 2\nclaim mv(m, u)", m, [1, 0, 0, 2]), [15, 18])
        self.assertEqual(value("vector u 1\nvector v 2\nclaim outer(u, v)", [1, 10], [1, 2, 3, 4]), [1, 10, 2, 20, 3, 30, 4, 40])
        self.assertEqual(value("matrix m 1 2\nclaim mm(m, transpose(m))", m), [84, 3, 3, 120 - 97])
        self.assertEqual(value("matrix m 0 0\nclaim mm(m, m)", [5]), [25])

    def test_transforms(self):
        self.assertEqual(value("vector u 2\nclaim transform(u)", [1, 2, 3, 4]), [10, 95, 93, 0])
        self.assertEqual(value("vector u 0\nclaim transform(u)", [7]), [7])
        for bits in range(1, 9):
            table = Numbers(bits).many(2 ** bits, GREATEST)
            twice = value(f"vector u {bits}\nclaim transform(transform(u))", table, p=GREATEST)
            self.assertEqual(twice, [entry * 2 ** bits % GREATEST for entry in table])

    def test_modulus_two(self):
        self.assertEqual(value("vector u 1\nclaim u - transform(u)", [1, 1], p=2), [1, 1])

    def test_lets(self):
        self.assertEqual(value("vector u 1\nlet a = 2 * u\nlet b = a * a\nclaim b - a", [3, 4]), [30, 56])


class SamplesTest(unittest.TestCase):
    def test_by_the_trees(self):
        many, words = 0, set()
        for p in (2, 3, 5, 97, GREATEST):
            for seed in range(150):
                try:
                    program = parse_large(LargeSampler(seed, p, 3, 3).text())
                    plan = nodes_of(program)
                except (TextError, SizeError):
                    continue
                inputs = [Numbers(seed + k).many(2 ** sum(shape), p) for k, (_, shape, _) in enumerate(program[2])]
                plain = PlainValues(program, inputs)
                tables = kept(self, tables_of, plan, inputs)
                self.assertEqual(len(tables), len(plan[2]))
                self.assertEqual([len(table) for table in tables], [2 ** sum(shape) for shape in plan[3]])
                self.assertEqual((plan[3][plan[4]], tables[plan[4]]), (plain.shape, plain.table))
                self.assertEqual(kept(self, result_of, plan, inputs), plain.table)
                many += 1
                words |= {node[0] for node in plan[2]}
        self.assertGreater(many, 400)
        self.assertEqual(len(words), 14)

    def test_the_largest(self):
        for text, shapes in (("matrix m 4 4\nmatrix n 4 4\nclaim mm(m, n)", [(4, 4), (4, 4)]), ("vector u 8\nvector v 8\nclaim u * v", [(8,), (8,)]),
                             ("matrix m 8 0\nvector u 0\nclaim mv(m, u)", [(8, 0), (0,)]), ("vector u 4\nvector v 4\nclaim outer(u, v)", [(4,), (4,)])):
            program = parse_large(f"field {GREATEST}\n{text}")
            inputs = [Numbers(k).many(2 ** sum(shape), GREATEST) for k, shape in enumerate(shapes)]
            self.assertEqual(result_of(nodes_of(program), inputs), PlainValues(program, inputs).table)

    def test_nothing_is_shared(self):
        plan = nodes_of(parse_large("field 97\nvector u 1\nlet b = transpose(outer(u, u))\nclaim u"))
        inputs = [[3, 4]]
        tables = tables_of(plan, inputs)
        unshared(self, tables, inputs)
        for at, table in enumerate(tables):
            unshared(self, table, tables[:at])


if __name__ == "__main__":
    unittest.main()
