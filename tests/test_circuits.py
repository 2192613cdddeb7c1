"""Points 0.4, 0.5 and 6.1 to 6.4: circuits, rows and tables."""

import unittest

from layerask.circuits import (checked, checked_rows, depth, input_table, modulus, output_rows, row_bits, run, run_row,
                               width)
from layerask.errors import CircuitError, FieldError, SizeError
from plain import GREATEST, kept, raised, run_by_rows, sample_circuit, sample_rows, true_outputs, unshared

EMPTY = ("lin", 0, 0, 0, 0)


def empty_circuit(widths, p=97):
    return ("circuit", p, list(widths), [[EMPTY] * 2 ** bits for bits in widths[:-1]])


class FormTest(unittest.TestCase):
    def test_valid(self):
        for circuit in (empty_circuit([0, 0]), empty_circuit([8, 8], 2), empty_circuit([0, 1], GREATEST),
                        sample_circuit(5, [1, 2, 0, 3], 1)):
            self.assertIs(checked(circuit), circuit)

    def test_no_circuit(self):
        layers = [[EMPTY]]
        things = [
            None, True, 5, "circuit", b"circuit", [], (), {}, {"circuit": 1}, object(), 2.5, ("circuit",),
            ["circuit", 97, [0, 0], layers], ("circuit", 97, [0, 0]), ("circuit", 97, [0, 0], layers, 0),
            ("regular", 97, [0, 0], layers), (None, 97, [0, 0], layers), (["circuit"], 97, [0, 0], layers),
            ("circuit", "97", [0, 0], layers), ("circuit", True, [0, 0], layers), ("circuit", None, [0, 0], layers),
            ("circuit", 97.0, [0, 0], layers), ("circuit", [97], [0, 0], layers),
            ("circuit", 97, (0, 0), layers), ("circuit", 97, None, layers), ("circuit", 97, [0, 0], None),
            ("circuit", 97, [0, 0], (EMPTY,)), ("circuit", 97, [0, 0], tuple(layers)), ("circuit", 97, "00", layers),
            ("circuit", 97, [0], []), ("circuit", 97, [], []), ("circuit", 97, [0], layers),
            ("circuit", 97, [0, 0, 0], layers), ("circuit", 97, [0, -1], layers), ("circuit", 97, [0, True], layers),
            ("circuit", 97, [False, 0], layers), ("circuit", 97, [0, "0"], layers), ("circuit", 97, [0, None], layers),
            ("circuit", 97, [0, 0.0], layers), ("circuit", 97, [[0], 0], layers),
        ]
        for thing in things:
            raised(self, CircuitError, "part", "circuit", checked, thing)

    def test_modulus(self):
        for p in (-97, 0, 1, 4, 91, 2147483648, 2147483659, 10 ** 5000):
            raised(self, FieldError, "number", p, checked, empty_circuit([0, 0], p))

    def test_limits(self):
        for widths in ([0] * 65, [8, 8], [8] * 17, [8] * 15 + [7, 7, 8], [0, 8], [6] * 65):
            circuit = empty_circuit(widths)
            self.assertIs(checked(circuit), circuit)
        raised(self, SizeError, "limit", "layers", checked, empty_circuit([0] * 66))
        raised(self, SizeError, "limit", "columns", checked, empty_circuit([9, 0]))
        raised(self, SizeError, "limit", "columns", checked, empty_circuit([0, 9]))
        raised(self, SizeError, "limit", "columns", checked, ("circuit", 97, [0, 10 ** 12], [[EMPTY]]))
        for widths in ([8] * 16 + [0, 0], [0] + [8] * 16 + [0]):
            self.assertEqual(sum(2 ** bits for bits in widths[:-1]), 4097)
            raised(self, SizeError, "limit", "gates", checked, empty_circuit(widths))

    def test_gates_are_told_by_the_widths(self):
        raised(self, SizeError, "limit", "gates", checked, ("circuit", 97, [8] * 18, [None] * 17))
        raised(self, CircuitError, "part", "layer", checked, ("circuit", 97, [8] * 17, [None] * 16))

    def test_layers(self):
        for layer in ([], [EMPTY], [EMPTY] * 3, (EMPTY, EMPTY), None, 5, "ab", {0: EMPTY, 1: EMPTY}):
            raised(self, CircuitError, "part", "layer", checked, ("circuit", 97, [1, 0], [layer]))

    def test_gates(self):
        good = [("lin", 0, 0, 0, 0), ("lin", 96, 3, 96, 3), ("mul", 96, 3, 3), ("mul", 0, 0, 0)]
        for gate in good:
            checked(("circuit", 97, [0, 2], [[gate]]))
        bad = [
            None, 5, "lin", (), ("lin",), ("mul",), ("add", 1, 0, 1, 1), ("add", 1, 0, 1), (1, 1, 0, 1),
            ["lin", 1, 0, 1, 1], ["mul", 1, 0, 1], ("lin", 1, 0, 1), ("mul", 1, 0, 1, 1), ("mul", 1, 0),
            ("lin", 1, 0, 1, 1, 0), ("mul", 1, 0, 1, 1, 1),
            ("lin", 97, 0, 1, 1), ("lin", 1, 0, 97, 1), ("lin", -1, 0, 1, 1), ("lin", 1, 0, -1, 1),
            ("lin", 1, 4, 1, 1), ("lin", 1, 0, 1, 4), ("lin", 1, -1, 1, 1), ("lin", 1, 0, 1, -1),
            ("mul", 97, 0, 1), ("mul", -1, 0, 1), ("mul", 1, 4, 0), ("mul", 1, 0, 4), ("mul", 1, -1, 0), ("mul", 1, 0, -1),
            ("lin", True, 0, 1, 1), ("lin", 1, True, 1, 1), ("lin", 1, 0, True, 1), ("lin", 1, 0, 1, False),
            ("mul", True, 0, 1), ("mul", 1, False, 1), ("mul", 1, 0, True), ("mul", "1", 0, 1), ("mul", 1.0, 0, 1),
            ("lin", 1, None, 1, 1), ("mul", [1], 0, 1), (("lin",), 1, 0, 1, 1),
        ]
        for gate in bad:
            raised(self, CircuitError, "part", "gate", checked, ("circuit", 97, [0, 2], [[gate]]))
            circuit = ("circuit", 97, [1, 0, 2], [[EMPTY, EMPTY], [gate]])
            raised(self, CircuitError, "part", "gate", checked, circuit)

    def test_the_columns_are_those_of_the_next_layer(self):
        checked(("circuit", 97, [0, 1, 0], [[("mul", 1, 1, 0)], [EMPTY, EMPTY]]))
        raised(self, CircuitError, "part", "gate", checked, ("circuit", 97, [1, 0], [[EMPTY, ("mul", 1, 1, 0)]]))

    def test_order(self):
        """Each circuit has the fault told, and all later ones, too."""
        many = [9] * 66
        raised(self, CircuitError, "part", "circuit", checked, ("circuit", 4, many, [None] * 64))
        raised(self, FieldError, "number", 4, checked, ("circuit", 4, many, [None] * 65))
        raised(self, SizeError, "limit", "layers", checked, ("circuit", 5, many, [None] * 65))
        raised(self, SizeError, "limit", "columns", checked, ("circuit", 5, many[1:], [None] * 64))
        raised(self, SizeError, "limit", "gates", checked, ("circuit", 5, [8] * 18, [None] * 17))
        raised(self, CircuitError, "part", "layer", checked, ("circuit", 5, [1, 0, 0], [[None], [None]]))
        raised(self, CircuitError, "part", "gate", checked, ("circuit", 5, [1, 0, 0], [[EMPTY, None], None]))
        raised(self, CircuitError, "part", "layer", checked, ("circuit", 5, [1, 0, 0], [[EMPTY, EMPTY], None]))

    def test_nothing_is_changed(self):
        kept(self, depth, sample_circuit(97, [1, 2, 1], 2))
        circuit = sample_circuit(97, [1, 2, 1], 2)
        before = sample_circuit(97, [1, 2, 1], 2)
        checked(circuit)
        self.assertEqual(circuit, before)


class RowsTest(unittest.TestCase):
    def test_valid(self):
        circuit = empty_circuit([0, 1], 5)
        for dims in (0, 1, 2, 10):
            rows = [[4, 0] for _ in range(2 ** dims)]
            self.assertIs(checked_rows(circuit, rows), rows)
            self.assertEqual(rows, [[4, 0]] * 2 ** dims)

    def test_no_rows(self):
        circuit = empty_circuit([0, 1], 5)
        for rows in (None, 5, "ab", (), ([0, 0],), {0: [0, 0]}, [], [[0, 0]] * 3, [[0, 0]] * 5, [[0, 0]] * 6,
                     [[0, 0]] * 1023, [[0, 0]] * 1025, [None] * 3000):
            raised(self, CircuitError, "part", "rows", checked_rows, circuit, rows)

    def test_too_many_rows(self):
        circuit = empty_circuit([0, 1], 5)
        for many in (2048, 4096):
            raised(self, SizeError, "limit", "rows", checked_rows, circuit, [[0, 0]] * many)
            raised(self, SizeError, "limit", "rows", checked_rows, circuit, [None] * many)

    def test_wrong_rows(self):
        circuit = empty_circuit([0, 1], 5)
        for row in ([], [0], [0, 0, 0], [0, 5], [-1, 0], [0, True], [0, "0"], [0, None], (0, 0), None, 5, "00", [0, 1.0]):
            raised(self, CircuitError, "part", "row", checked_rows, circuit, [row])
            raised(self, CircuitError, "part", "row", checked_rows, circuit, [[0, 0], row])
            raised(self, CircuitError, "part", "row", checked_rows, circuit, [[0, 0]] * 1023 + [row])

    def test_the_circuit_is_not_checked(self):
        circuit = ("circuit", 4, [0, 0], [None])
        rows = [[3]]
        self.assertIs(checked_rows(circuit, rows), rows)


class RunTest(unittest.TestCase):
    def circuits(self):
        for p in (2, 3, 97, GREATEST):
            for at, widths in enumerate(([0, 0], [0, 1], [2, 0], [1, 2, 1], [0, 3, 0, 2])):
                yield sample_circuit(p, widths, 10 * at + p % 7)

    def test_parts(self):
        circuit = sample_circuit(97, [0, 3, 2], 3)
        self.assertEqual([modulus(circuit), depth(circuit)], [97, 2])
        self.assertEqual([width(circuit, layer) for layer in range(3)], [0, 3, 2])
        self.assertEqual([row_bits([[0]] * 2 ** n) for n in range(11)], list(range(11)))

    def test_one_row(self):
        for circuit in self.circuits():
            row = sample_rows(circuit, 0, 5)[0]
            tables = kept(self, run_row, circuit, row)
            self.assertEqual(tables, run_by_rows(circuit, [row]))
            self.assertEqual(tables[-1], row)

    def test_rows(self):
        for circuit in self.circuits():
            for dims in range(4):
                rows = sample_rows(circuit, dims, 6)
                tables = kept(self, run, circuit, rows)
                self.assertEqual(tables, run_by_rows(circuit, rows))
                for r, row in enumerate(rows):
                    alone = run_row(circuit, row)
                    for layer, table in enumerate(tables):
                        self.assertEqual(table[r::len(rows)], alone[layer])
                unshared(self, tables[0], tables[1:])

    def test_empty_columns(self):
        self.assertEqual(run_row(("circuit", 97, [1, 0], [[EMPTY, ("lin", 2, 0, 3, 0)]]), [5]), [[0, 25], [5]])

    def test_input_table(self):
        for circuit in self.circuits():
            rows = sample_rows(circuit, 2, 7)
            self.assertEqual(kept(self, input_table, circuit, rows), run(circuit, rows)[-1])
        self.assertEqual(input_table(empty_circuit([0, 1]), [[1, 2], [3, 4]]), [1, 3, 2, 4])

    def test_output_rows(self):
        for circuit in self.circuits():
            for dims in range(3):
                rows = sample_rows(circuit, dims, 8)
                found = kept(self, output_rows, circuit, run(circuit, rows)[0], dims)
                self.assertEqual(found, true_outputs(circuit, rows))
        self.assertEqual(output_rows(empty_circuit([1, 0]), [1, 3, 2, 4], 1), [[1, 2], [3, 4]])

    def test_errors_of_run(self):
        raised(self, CircuitError, "part", "circuit", run, None, None)
        raised(self, FieldError, "number", 4, run, empty_circuit([0, 0], 4), None)
        raised(self, CircuitError, "part", "gate", run, ("circuit", 5, [0, 0], [[None]]), [])
        raised(self, CircuitError, "part", "rows", run, empty_circuit([0, 0]), [[1]] * 3)
        raised(self, SizeError, "limit", "rows", run, empty_circuit([0, 0]), [[1]] * 2048)
        raised(self, CircuitError, "part", "row", run, empty_circuit([0, 0]), [[1], [97]])


if __name__ == "__main__":
    unittest.main()
