"""Points 18.1 to 18.5: from a graph to a circuit."""

import unittest

from layerask.circuits import checked, run_row
from layerask.errors import SizeError
from layerask.graphs import build, evaluate_graph
from layerask.layers import circuit_of, circuit_of_program, input_columns, levels
from layerask.meaning import evaluate
from layerask.parsing import parse_program
from plain import GREATEST, Numbers, kept, raised
from plaingraphs import plain_circuit, plain_levels, reads
from programs import name, num, program, sample_numbers, sample_program

NO_GATE = ("lin", 0, 0, 0, 0)
GRAPH = ("graph", 97, 2, [("one",), ("input", 0), ("input", 1), ("mul", 1, 1, 2), ("lin", 1, 1, 96, 3)], [4, 2])


def with_outputs(graph, outputs):
    return graph[:4] + (outputs,)


def squares(many, p=97):
    """A graph in which each node behind the input is the square of the one before."""
    nodes = [("one",), ("input", 0)] + [("mul", 1, k, k) for k in range(1, many + 1)]
    return ("graph", p, 1, nodes, [many + 1])


def samples():
    """Graphs of programs, also with other nodes in their lists of outputs."""
    for p in (2, 3, 97, GREATEST):
        for seed in range(60):
            graph = build(sample_program(seed, p, 4 if p < 97 else 3))
            yield graph, seed
            numbers = Numbers(seed)
            yield with_outputs(graph, [numbers.below(len(graph[3])) for _ in range(1 + numbers.below(5))]), seed


def circuit_or_limit(graph):
    try:
        return circuit_of(graph)
    except SizeError as error:
        return error.limit


class LevelTest(unittest.TestCase):
    def test_levels(self):
        self.assertEqual(kept(self, levels, GRAPH), [0, 0, 0, 1, 2])
        self.assertEqual(levels(("graph", 97, 0, [("one",), ("lin", 5, 0, 0, 0)], [1])), [0, 1])
        self.assertEqual(levels(squares(70)), [0] + list(range(71)))

    def test_samples(self):
        for graph, _ in samples():
            self.assertEqual(kept(self, levels, graph), plain_levels(graph))


class CircuitTest(unittest.TestCase):
    """Point 18.2, worked out by hand."""

    def check(self, outputs, widths, layers, graph=GRAPH):
        self.assertEqual(kept(self, circuit_of, with_outputs(graph, outputs)), ("circuit", 97, widths, layers))

    def test_inputs_as_outputs(self):
        self.check([1], [0, 2], [[("lin", 1, 1, 0, 1)]])
        self.check([0], [0, 2], [[("lin", 1, 0, 0, 0)]])
        self.check([2, 0, 2, 1, 1], [3, 2], [[("lin", 1, 2, 0, 2), ("lin", 1, 0, 0, 0), ("lin", 1, 2, 0, 2), ("lin", 1, 1, 0, 1),
                                              ("lin", 1, 1, 0, 1)] + [NO_GATE] * 3])

    def test_one_level(self):
        self.check([3], [0, 2], [[("mul", 1, 1, 2)]])
        self.check([3, 1, 3], [2, 2], [[("mul", 1, 1, 2), ("lin", 1, 1, 0, 1), ("mul", 1, 1, 2), NO_GATE]])

    def test_two_levels(self):
        copies = [("lin", 1, 1, 0, 1), ("mul", 1, 1, 2)]
        self.check([4], [0, 1, 2], [[("lin", 1, 0, 96, 1)], copies])
        self.check([3, 4], [1, 1, 2], [[("lin", 1, 1, 0, 1), ("lin", 1, 0, 96, 1)], copies])
        self.check([4, 0, 4], [2, 2, 2], [[("lin", 1, 1, 96, 2), ("lin", 1, 0, 0, 0), ("lin", 1, 1, 96, 2), NO_GATE],
                                          [("lin", 1, 0, 0, 0)] + copies + [NO_GATE]])

    def test_nodes_that_no_output_needs(self):
        graph = ("graph", 97, 1, [("one",), ("input", 0), ("mul", 1, 1, 1), ("mul", 1, 2, 2), ("lin", 5, 0, 0, 0)], [])
        self.check([2], [0, 1], [[("mul", 1, 1, 1)]], graph)
        self.check([4], [0, 1], [[("lin", 5, 0, 0, 0)]], graph)
        self.check([4, 3], [1, 1, 1], [[("lin", 1, 1, 0, 1), ("mul", 1, 0, 0)], [("mul", 1, 1, 1), ("lin", 5, 0, 0, 0)]], graph)

    def test_an_operand_that_is_read_twice(self):
        self.check([4], [0, 0, 0, 1], [[("mul", 1, 0, 0)], [("mul", 1, 0, 0)], [("mul", 1, 1, 1)]], squares(3))

    def test_without_inputs(self):
        graph = ("graph", 97, 0, [("one",), ("lin", 5, 0, 0, 0)], [])
        self.check([0], [0, 0], [[("lin", 1, 0, 0, 0)]], graph)
        self.check([1, 0, 1], [2, 0], [[("lin", 5, 0, 0, 0), ("lin", 1, 0, 0, 0), ("lin", 5, 0, 0, 0), NO_GATE]], graph)

    def test_of_a_program(self):
        tree = parse_program("field 97 input a input b output a - a * b output b")
        self.assertEqual(kept(self, circuit_of_program, tree), circuit_of(GRAPH))

    def test_samples(self):
        limits = set()
        for graph, _ in samples():
            found = circuit_or_limit(graph)
            self.assertEqual(found, plain_circuit(graph))
            if isinstance(found, str):
                limits.add(found)
            else:
                self.assertIs(checked(found), found)
        self.assertIn("layers", limits)

    def test_form(self):
        """Points 18.1 and 18.3: the number of layers, and the widths."""
        for graph, _ in samples():
            found = circuit_or_limit(graph)
            if isinstance(found, str):
                continue
            _, p, widths, layers = found
            self.assertEqual(len(layers), max([1] + [plain_levels(graph)[at] for at in graph[4]]))
            self.assertEqual(p, graph[1])
            self.assertEqual(2 ** widths[0], max(1, 2 ** (len(graph[4]) - 1).bit_length()))
            self.assertEqual(2 ** widths[-1], 2 ** graph[2].bit_length())
            self.assertEqual([len(gates) for gates in layers], [2 ** width for width in widths[:-1]])


class LimitTest(unittest.TestCase):
    """Point 18.4."""

    def wide(self, inputs, outputs):
        nodes = [("one",)] + [("input", k) for k in range(inputs)]
        return ("graph", 97, inputs, nodes, outputs)

    def test_layers(self):
        self.assertEqual(len(circuit_of(squares(64))[3]), 64)
        raised(self, SizeError, "limit", "layers", circuit_of, squares(65))
        raised(self, SizeError, "limit", "layers", circuit_of, squares(4000))
        # Only outputs count.
        self.assertEqual(len(circuit_of(with_outputs(squares(4000), [65]))[3]), 64)
        raised(self, SizeError, "limit", "layers", circuit_of, with_outputs(squares(4000), [65, 66]))

    def test_columns_of_the_inputs(self):
        self.assertEqual(circuit_of(self.wide(255, [1]))[2], [0, 8])
        raised(self, SizeError, "limit", "columns", circuit_of, self.wide(256, [1]))
        self.assertEqual(circuit_of(self.wide(127, [1]))[2], [0, 7])
        self.assertEqual(circuit_of(self.wide(128, [1]))[2], [0, 8])

    def test_columns_of_the_outputs(self):
        self.assertEqual(circuit_of(self.wide(1, [1] * 256))[2], [8, 1])
        raised(self, SizeError, "limit", "columns", circuit_of, self.wide(1, [1] * 257))

    def test_columns_between(self):
        for many, fits in ((256, True), (257, False)):
            # So many products, which are joined two at a time by nodes of the next level.
            nodes = [("one",)] + [("input", k) for k in range(30)]
            pairs = [(x, y) for x in range(1, 31) for y in range(x, 31)][:many]
            nodes += [("mul", 1, x, y) for x, y in pairs]
            first = 31
            outputs = []
            for at in range(0, many, 2):
                nodes.append(("lin", 1, first + at, 2, first + min(at + 1, many - 1)) if at + 1 < many else ("lin", 2, first + at, 0, first + at))
                outputs.append(len(nodes) - 1)
            graph = ("graph", 97, 30, nodes, outputs)
            if fits:
                self.assertEqual(circuit_of(graph)[2], [7, 8, 5])
            else:
                raised(self, SizeError, "limit", "columns", circuit_of, graph)

    def test_gates(self):
        """Copies of many nodes through many layers."""
        def graph(high, wide):
            nodes = squares(high)[3]
            nodes = [("one",)] + [("input", k) for k in range(wide)] + [("mul", 1, 1, 1)]
            while len(nodes) < 1 + wide + high:
                nodes.append(("mul", 1, len(nodes) - 1, len(nodes) - 1))
            return ("graph", 97, wide, nodes, [len(nodes) - 1] + list(range(2, wide + 1)))

        # Layers of 64 columns: the square and 63 inputs, and below the lowest one all inputs and 1.
        self.assertEqual(circuit_of(graph(64, 64))[2], [6] * 64 + [7])
        self.assertEqual(sum(2 ** width for width in circuit_of(graph(64, 64))[2][:-1]), 4096)
        raised(self, SizeError, "limit", "gates", circuit_of, graph(64, 65))
        self.assertEqual(circuit_of(graph(32, 128))[2], [7] * 32 + [8])
        raised(self, SizeError, "limit", "gates", circuit_of, graph(33, 128))

    def test_gates_met_and_exceeded(self):
        nodes = [("one",), ("input", 0)] + [("mul", 1, k, k) for k in range(1, 65)]
        for outputs, gates in (([65] * 256, 256 + 63), ([65] * 128 + [1], 256 + 2 * 63)):
            found = circuit_of(("graph", 97, 1, nodes, outputs))
            self.assertEqual(sum(2 ** width for width in found[2][:-1]), gates)

    def test_the_order(self):
        """Layers come first, then columns, then gates."""
        raised(self, SizeError, "limit", "layers", circuit_of, with_outputs(squares(65), [66] * 257))
        raised(self, SizeError, "limit", "layers", circuit_of, with_outputs(squares(65), [66] * 200))
        wide = [("one",)] + [("input", k) for k in range(300)] + [("mul", 1, 1, 1)]
        for k in range(63):
            wide.append(("mul", 1, len(wide) - 1, len(wide) - 1))
        high = len(wide) - 1
        raised(self, SizeError, "limit", "columns", circuit_of, ("graph", 97, 300, wide, [high] + list(range(1, 200))))
        raised(self, SizeError, "limit", "columns", circuit_of, ("graph", 97, 300, wide, [high] * 257))

    def test_by_programs(self):
        def parsed(text):
            return parse_program("field 97 " + text)

        deep = "input a output repeat {} with x = a: x * x"
        self.assertEqual(len(circuit_of_program(parsed(deep.format(64)))[3]), 64)
        raised(self, SizeError, "limit", "layers", circuit_of_program, parsed("input a let y = repeat 64 with x = a: x * x output y + a"))
        inputs = "input a[64] input b[64] input c[64] input d[{}] output a"
        self.assertEqual(circuit_of_program(parsed(inputs.format(63)))[2], [6, 8])
        raised(self, SizeError, "limit", "columns", circuit_of_program, parsed(inputs.format(64)))
        copies = "input a[64] input b[62] output repeat {} with x = a[0]: x * a[1] output a output b"
        self.assertEqual(circuit_of_program(parsed(copies.format(32)))[2], [7] * 33)
        raised(self, SizeError, "limit", "gates", circuit_of_program, parsed(copies.format(33)))

    def test_the_gates_of_the_building(self):
        tree = parse_program("field 97 input a input b output sum i < 64: sum j < 40: (a + i) * (b + j)")
        raised(self, SizeError, "limit", "gates", circuit_of_program, tree)


class InputTest(unittest.TestCase):
    """Point 18.5."""

    def test_columns(self):
        circuit = circuit_of(GRAPH)
        self.assertEqual(kept(self, input_columns, circuit, [5, 6]), [1, 5, 6, 0])
        empty = circuit_of_program(program(97, [], [], [num(5)]))
        self.assertEqual(kept(self, input_columns, empty, []), [1])

    def test_the_first_columns_are_the_outputs(self):
        for graph, seed in samples():
            circuit = circuit_or_limit(graph)
            if isinstance(circuit, str):
                continue
            numbers = Numbers(seed).many(graph[2], graph[1])
            columns = input_columns(circuit, numbers)
            self.assertEqual(columns, [1] + numbers + [0] * (2 ** circuit[2][-1] - 1 - len(numbers)))
            found = run_row(circuit, columns)[0]
            self.assertEqual(found[:len(graph[4])], evaluate_graph(graph, numbers))
            self.assertEqual(found[len(graph[4]):], [0] * (len(found) - len(graph[4])))

    def test_what_the_program_means(self):
        for seed in range(60):
            tree = sample_program(seed, 3, 4)
            try:
                circuit = circuit_of_program(tree)
            except SizeError:
                continue
            numbers = sample_numbers(tree, seed)
            meant = evaluate(tree, numbers)
            self.assertEqual(run_row(circuit, input_columns(circuit, numbers))[0][:len(meant)], meant)


if __name__ == "__main__":
    unittest.main()
