"""Points 17.1 to 17.7: the graph of a program."""

import unittest

from layerask.errors import SizeError
from layerask.graphs import build, evaluate_graph
from layerask.meaning import evaluate
from layerask.parsing import parse_program
from plain import GREATEST, Numbers, kept, raised, sample_rows
from plaingraphs import TooMany, plain_graph, reads
from programs import chained, name, num, program, sample_numbers, sample_program

MINUS = 96


def graph(text, p=97):
    return build(parse_program(f"field {p}\n{text}"))


class BuildTest(unittest.TestCase):
    """Nodes and their numbers, worked out by hand; a and b are the nodes 1 and 2."""

    HEAD = "input a input b\n"

    def check(self, text, nodes, outputs, p=97):
        given = [("one",), ("input", 0), ("input", 1)]
        self.assertEqual(graph(self.HEAD + text, p), ("graph", p, 2, given + nodes, outputs), text)

    def test_combinations(self):
        self.check("output a + b", [("lin", 1, 1, 1, 2)], [3])
        self.check("output b + a", [("lin", 1, 1, 1, 2)], [3])
        self.check("output a - b", [("lin", 1, 1, MINUS, 2)], [3])
        self.check("output b - a", [("lin", MINUS, 1, 1, 2)], [3])
        self.check("output -a", [("lin", MINUS, 1, 0, 1)], [3])
        self.check("output a + 5", [("lin", 5, 0, 1, 1)], [3])
        self.check("output 5 - a", [("lin", 5, 0, MINUS, 1)], [3])
        self.check("output a - 5", [("lin", 92, 0, 1, 1)], [3])
        self.check("output a + a", [("lin", 2, 1, 0, 1)], [3])
        self.check("output a + 0", [], [1])
        self.check("output 0 + a", [], [1])
        self.check("output a - 0", [], [1])
        self.check("output a - a", [("lin", 0, 0, 0, 0)], [3])
        self.check("output a - a + b", [], [2])
        self.check("output --a", [("lin", MINUS, 1, 0, 1), ("lin", MINUS, 3, 0, 3)], [4])
        self.check("output -5", [("lin", 92, 0, 0, 0)], [3])
        # The parts of a combination are not looked into.
        self.check("output a + b - a", [("lin", 1, 1, 1, 2), ("lin", MINUS, 1, 1, 3)], [4])

    def test_combinations_modulo_2(self):
        self.check("output -a output a + a output a - b", [("lin", 1, 1, 1, 2), ("lin", 0, 0, 0, 0)], [1, 4, 3], 2)

    def test_products(self):
        self.check("output a * b", [("mul", 1, 1, 2)], [3])
        self.check("output b * a", [("mul", 1, 1, 2)], [3])
        self.check("output b * b", [("mul", 1, 2, 2)], [3])
        self.check("output 5 * a", [("lin", 5, 1, 0, 1)], [3])
        self.check("output a * 5", [("lin", 5, 1, 0, 1)], [3])
        self.check("output 1 * a", [], [1])
        self.check("output a * 0", [("lin", 0, 0, 0, 0)], [3])
        self.check("output 0 * a + b", [], [2])
        self.check("output 5 * 30", [("lin", 53, 0, 0, 0)], [3])
        self.check("output 2 * 49", [], [0])
        self.check("output (a * 5) * 39", [("lin", 5, 1, 0, 1), ("lin", 39, 3, 0, 3)], [4])

    def test_a_node_that_is_there_is_not_made_again(self):
        self.check("output a * b output b * a output a + b output b + a", [("mul", 1, 1, 2), ("lin", 1, 1, 1, 2)], [3, 3, 4, 4])
        self.check("let c = a + 1 let d = 1 + a output c * d", [("lin", 1, 0, 1, 1), ("mul", 1, 3, 3)], [4])
        self.check("output 5 output 2 + 3", [("lin", 5, 0, 0, 0)], [3, 3])
        self.check("output 2 * a output a + a", [("lin", 2, 1, 0, 1)], [3, 3])

    def test_powers(self):
        self.check("output a ^ 0", [], [0])
        self.check("output (a * b) ^ 0", [], [0])
        self.check("output a ^ 1", [], [1])
        self.check("output a ^ 2", [("mul", 1, 1, 1)], [3])
        self.check("output a ^ 3", [("mul", 1, 1, 1), ("mul", 1, 1, 3)], [4])
        self.check("output a ^ 4", [("mul", 1, 1, 1), ("mul", 1, 3, 3)], [4])
        self.check("output a ^ 5", [("mul", 1, 1, 1), ("mul", 1, 3, 3), ("mul", 1, 1, 4)], [5])
        # a times its square comes before the fourth power.
        self.check("output a ^ 7", [("mul", 1, 1, 1), ("mul", 1, 1, 3), ("mul", 1, 3, 3), ("mul", 1, 4, 5)], [6])
        self.check("output a ^ 6", [("mul", 1, 1, 1), ("mul", 1, 3, 3), ("mul", 1, 3, 4)], [5])
        self.check("output 3 ^ 4", [("lin", 81, 0, 0, 0)], [3])
        self.check("output 0 ^ 0", [], [0])
        self.check("output 2 ^ 48", [], [0])
        squares = [("mul", 1, 1, 1)] + [("mul", 1, k, k) for k in range(3, 8)]
        self.check("output a ^ 64", squares, [8])

    def test_flags(self):
        # Modulo 5: 1 minus the fourth power of the difference.
        self.check("output a == b", [("lin", 1, 1, 4, 2), ("mul", 1, 3, 3), ("mul", 1, 4, 4), ("lin", 1, 0, 4, 5)], [6], 5)
        self.check("output a == 3", [("lin", 2, 0, 1, 1), ("mul", 1, 3, 3), ("mul", 1, 4, 4), ("lin", 1, 0, 4, 5)], [6], 5)
        self.check("output a == b", [("lin", 1, 1, 2, 2), ("mul", 1, 3, 3), ("lin", 1, 0, 2, 4)], [5], 3)
        self.check("output a == b", [("lin", 1, 1, 1, 2), ("lin", 1, 0, 1, 3)], [4], 2)
        self.check("output a == 0", [("lin", 1, 0, 1, 1)], [3], 2)
        self.check("output a == a output 2 == 3", [("lin", 0, 0, 0, 0)], [0, 3], 5)
        x, y = 4, 6
        flags = [("lin", 1, 1, 1, 2), ("lin", 1, 0, 1, 3), ("lin", 1, 0, 1, 1)]
        head = "let x = a == b let y = a == 0 "
        self.check(head + "output not x output x and y", [flags[0], flags[1], flags[2], ("lin", 1, 0, 1, x), ("mul", 1, x, y - 1)],
                   [6, 7], 2)
        self.check(head + "output x or y", flags + [("lin", 1, x, 1, 5), ("mul", 1, x, 5), ("lin", 1, 6, 1, 7)], [8], 2)
        self.check(head + "output y or x", flags + [("lin", 1, x, 1, 5), ("mul", 1, x, 5), ("lin", 1, 6, 1, 7)], [8], 2)
        self.check("let x = a == 0 output x or 1 == 1", [("lin", 1, 0, 1, 1), ("lin", 1, 0, 1, 3), ("lin", 1, 3, 1, 4)], [5], 2)
        self.check("let x = a == 0 output x and 1 == 1 output x or 1 == 0", [("lin", 1, 0, 1, 1)], [3, 3], 2)

    def test_the_sum_of_an_or_is_made_first(self):
        head = "let x = a == 0 let y = b == 0 "
        flags = [("mul", 1, 1, 1), ("lin", 1, 0, 2, 3), ("mul", 1, 2, 2), ("lin", 1, 0, 2, 5)]
        self.check(head + "output x or y", flags + [("lin", 1, 4, 1, 6), ("mul", 1, 4, 6), ("lin", 1, 7, 2, 8)], [9], 3)

    def test_if(self):
        flag = [("lin", 1, 0, 1, 1)]
        # The product of the test and the difference, plus the second branch.
        self.check("output if a == 0 then b else 0", flag + [("mul", 1, 2, 3)], [4], 2)
        self.check("output if a == 0 then b else 1", flag + [("lin", 1, 0, 1, 2), ("mul", 1, 3, 4), ("lin", 1, 0, 1, 5)], [6], 2)
        self.check("output if a == 0 then a else b", flag + [("lin", 1, 1, 1, 2), ("mul", 1, 3, 4), ("lin", 1, 2, 1, 5)], [6], 2)
        self.check("output if a == 0 then b else b", flag[:0], [2], 2)
        self.check("output if a == 0 then 1 else 0", flag, [3], 2)
        self.check("output if 1 == 1 then a else b", [], [1], 2)
        self.check("output if 1 == 0 then a else b", [], [2], 2)

    def test_if_with_a_constant_evaluates_both(self):
        self.check("output (if 1 == 0 then a * b else a + b) output a * b", [("mul", 1, 1, 2), ("lin", 1, 1, 1, 2)], [4, 3])

    def test_loops(self):
        self.check("output sum i < 3: a * i", [("lin", 2, 1, 0, 1), ("lin", 1, 1, 1, 3)], [4])
        # Five turns: two pairs and the last one alone; then a pair; then the last one.
        turns = [("lin", k, 0, 1, 1) for k in range(1, 5)]
        self.check("output sum i < 5: a + i", turns + [("lin", 1, 1, 1, 3), ("lin", 1, 4, 1, 5), ("lin", 1, 7, 1, 8), ("lin", 1, 6, 1, 9)], [10])
        self.check("output product i < 5: a + i", turns + [("mul", 1, 1, 3), ("mul", 1, 4, 5), ("mul", 1, 7, 8), ("mul", 1, 6, 9)], [10])
        self.check("output each i < 3: a + i", turns[:2], [1, 3, 4])
        self.check("output product i < 1: a", [], [1])
        self.check("output sum i < 4: a", [("lin", 2, 1, 0, 1), ("lin", 2, 3, 0, 3)], [4])
        self.check("output product i < 4: a", [("mul", 1, 1, 1), ("mul", 1, 3, 3)], [4])
        self.check("output product i < 3: a", [("mul", 1, 1, 1), ("mul", 1, 1, 3)], [4])
        # All turns are evaluated before they are joined.
        self.check("output sum i < 2: a * (b + i)", [("mul", 1, 1, 2), ("lin", 1, 0, 1, 2), ("mul", 1, 1, 4), ("lin", 1, 3, 1, 5)], [6])

    def test_loop_variables(self):
        self.check("output each i < 4: a * i", [("lin", 2, 1, 0, 1), ("lin", 0, 0, 0, 0)], [4, 1, 3, 4], 3)
        self.check("output each i < 5: i", [("lin", 0, 0, 0, 0)], [3, 0, 3, 0, 3], 2)
        self.check("output each i < 4: [a, b, a, b][3 - i]", [], [2, 1, 2, 1], 2)

    def test_repeat_and_calls(self):
        self.check("output repeat 3 with x = a: x * b", [("mul", 1, 1, 2), ("mul", 1, 2, 3), ("mul", 1, 2, 4)], [5])
        self.check("function f(x, y) = x * x + y output f(b, a)", [("mul", 1, 2, 2), ("lin", 1, 1, 1, 3)], [4])
        # Arguments are evaluated from left to right, before the function.
        self.check("function f(x, y) = y * y + x output f(a + b, a * b)",
                   [("lin", 1, 1, 1, 2), ("mul", 1, 1, 2), ("mul", 1, 4, 4), ("lin", 1, 3, 1, 5)], [6])

    def test_the_order_of_the_text(self):
        nodes = [("mul", 1, 2, 2), ("mul", 1, 1, 1), ("lin", 1, 3, 1, 4), ("mul", 1, 1, 2), ("mul", 1, 5, 6)]
        self.check("let c = b * b + a * a let d = a * b output d * c", nodes, [7])
        # Functions make nothing where they are defined.
        self.check("function f(x) = x * x let c = a * b output f(a) * c", [("mul", 1, 1, 2), ("mul", 1, 1, 1), ("mul", 1, 3, 4)], [5])

    def test_arrays_place_by_place(self):
        head = "let u = [a, b] let v = [b, a] "
        self.check(head + "output u + v output u - v", [("lin", 1, 1, 1, 2), ("lin", 1, 1, MINUS, 2), ("lin", MINUS, 1, 1, 2)], [3, 3, 4, 5])
        self.check(head + "output -u output a * v", [("lin", MINUS, 1, 0, 1), ("lin", MINUS, 2, 0, 2), ("mul", 1, 1, 2), ("mul", 1, 1, 1)],
                   [3, 4, 5, 6])
        self.check(head + "output v * a", [("mul", 1, 1, 2), ("mul", 1, 1, 1)], [3, 4])
        # The whole operation for one place, then for the next one.
        self.check(head + "output if a == 0 then u else v",
                   [("lin", 1, 0, 1, 1), ("lin", 1, 1, 1, 2), ("mul", 1, 3, 4), ("lin", 1, 2, 1, 5), ("lin", 1, 1, 1, 5)], [6, 7], 2)
        self.check(head + "output if 1 == 0 then u else v", [], [2, 1])

    def test_outputs(self):
        self.check("output 1 output 0 output 7 output a output 1", [("lin", 0, 0, 0, 0), ("lin", 7, 0, 0, 0)], [0, 3, 4, 1, 0])
        # Nodes for constants are made when all outputs have been evaluated.
        self.check("output 7 output a * b", [("mul", 1, 1, 2), ("lin", 7, 0, 0, 0)], [4, 3])
        self.check("output [7, a, 8] output a * b", [("mul", 1, 1, 2), ("lin", 7, 0, 0, 0), ("lin", 8, 0, 0, 0)], [4, 1, 5, 3])

    def test_nodes_that_no_output_needs(self):
        self.check("let c = a * a let d = b * b let f = c + d output d * a", [("mul", 1, 2, 2), ("mul", 1, 1, 3)], [4])
        self.check("let c = a * a output 5", [("lin", 5, 0, 0, 0)], [3])
        self.check("let c = a * a output b", [], [2])
        self.check("let c = a * a let d = c * c output c * b", [("mul", 1, 1, 1), ("mul", 1, 2, 3)], [4])

    def test_without_inputs(self):
        self.assertEqual(graph("output 1"), ("graph", 97, 0, [("one",)], [0]))
        self.assertEqual(graph("output 5"), ("graph", 97, 0, [("one",), ("lin", 5, 0, 0, 0)], [1]))

    def test_inputs_of_arrays(self):
        self.assertEqual(graph("input a[2] input n input b[1] output b output n output a"),
                         ("graph", 97, 4, [("one",), ("input", 0), ("input", 1), ("input", 2), ("input", 3)], [4, 3, 1, 2]))


class LimitTest(unittest.TestCase):
    """Point 17.6."""

    def products(self, many):
        """A program that makes so many nodes, all of them needed or not."""
        lets = [("let", "v0", ("*", name("a"), name("a")))]
        for k in range(1, many):
            lets.append(("let", f"v{k}", ("*", name(f"v{k - 1}"), name("a"))))
        return lets

    def test_met_and_exceeded(self):
        for output, many in ((name("v4095"), 4096), (name("a"), 0), (("*", name("a"), name("a")), 1), (num(1), 0)):
            tree = program(97, [("a", 0)], self.products(4096), [output])
            self.assertEqual(len(build(tree)[3]), 2 + many)
        tree = program(97, [("a", 0)], self.products(4097), [name("a")])
        raised(self, SizeError, "limit", "gates", build, tree)

    def test_constants_count(self):
        for many, fits in ((4095, True), (4096, False)):
            tree = program(97, [("a", 0)], self.products(many), [num(5)])
            if fits:
                self.assertEqual(len(build(tree)[3]), 3)
            else:
                raised(self, SizeError, "limit", "gates", build, tree)
        self.assertEqual(len(build(program(97, [("a", 0)], self.products(4096), [num(1)]))[3]), 2)

    def test_inputs_do_not_count(self):
        lets = self.products(4096)
        tree = program(97, [("a", 0)] + [(f"b{k}", 64) for k in range(39)], lets, [name("v4095")])
        self.assertEqual(len(build(tree)[3]), 1 + 1 + 39 * 64 + 4096)

    def test_by_the_language(self):
        # The sums, the products, and for each i the joining.
        text = "input a input b output each i < {}: product j < 31: (a + i) * (b + j)"
        for many in (1, 10, 63):
            made = (many - 1) + 30 + many * 31 + many * 30
            self.assertLessEqual(made, 4096)
            self.assertEqual(len(graph(text.format(many))[3]), 3 + made)
        raised(self, SizeError, "limit", "gates", graph, "input a input b output sum i < 64: sum j < 40: (a + i) * (b + j)")

    def test_samples(self):
        found = set()
        for seed in range(30):
            tree = sample_program(seed, 2147483647, 6)
            try:
                expected = plain_graph(tree)
            except TooMany:
                raised(self, SizeError, "limit", "gates", build, tree)
                found.add("too many")
            else:
                self.assertEqual(build(tree), expected)
                found.add("fits")
        self.assertIn("fits", found)


class GraphTest(unittest.TestCase):
    def samples(self):
        for p in (2, 3, 5, 97, GREATEST):
            for seed in range(80):
                yield sample_program(seed, p, 4 if p < 97 else 3), seed

    def test_word_by_word(self):
        for tree, _ in self.samples():
            self.assertEqual(kept(self, build, tree), plain_graph(tree))

    def test_form(self):
        """Point 17.1."""
        for tree, _ in self.samples():
            word, p, many, nodes, outputs = build(tree)
            self.assertEqual((word, p, many), ("graph", tree[1], sum(max(size, 1) for _, size, _ in tree[2])))
            self.assertEqual(nodes[:many + 1], [("one",)] + [("input", k) for k in range(many)])
            needed = set(outputs)
            for at in range(len(nodes) - 1, many, -1):
                node = nodes[at]
                self.assertIn(at, needed)
                self.assertIn(node[0], ("lin", "mul"))
                needed |= {node[k] for k in reads(node)}
                self.assertTrue(all(node[k] < at for k in reads(node)))
                if node[0] == "mul":
                    self.assertTrue(node[1] == 1 and 0 < node[2] <= node[3])
                elif node[2] == node[4]:
                    self.assertTrue(node[3] == 0 and (node[2] == 0 or node[1] > 1))
                else:
                    self.assertTrue(node[2] < node[4] and 0 < node[1] < p and 0 < node[3] < p)
            self.assertEqual(len(nodes), len(set(nodes)))

    def test_the_meaning(self):
        """Point 17.7."""
        for tree, seed in self.samples():
            built = build(tree)
            for again in range(4):
                numbers = sample_numbers(tree, seed + 1000 * again)
                self.assertEqual(kept(self, evaluate_graph, built, numbers), evaluate(tree, numbers))

    def test_all_numbers_of_a_small_field(self):
        tree = parse_program("field 3 input a input b output if a == b then a ^ 0 else a - b output a == 1 or b == 1 and not a == 2")
        built = build(tree)
        for a in range(3):
            for b in range(3):
                self.assertEqual(evaluate_graph(built, [a, b]), evaluate(tree, [a, b]))
        self.assertEqual(evaluate_graph(built, [0, 0]), [1, 0])

    def test_any_outputs(self):
        told = ("graph", 97, 2, [("one",), ("input", 0), ("input", 1), ("mul", 1, 1, 2), ("lin", 1, 1, 96, 3)], [4, 0, 2, 3, 4])
        self.assertEqual(evaluate_graph(told, [5, 6]), [72, 1, 6, 30, 72])


if __name__ == "__main__":
    unittest.main()
