"""Points 27.4 to 27.6: the nodes of large expressions, their shapes and their faults."""

import unittest

from layerask.errors import ProgramError, SizeError, TextError
from layerask.largenodes import nodes_of, uses
from layerask.largetext import parse_large
from plain import kept, raised, unshared
from plainlarge import LargeSampler, PlainNodes


def plan_of(text, p=97):
    return nodes_of(parse_large(f"field {p}\n{text}"))


INPUTS = "number a\nvector u 2\nvector v 2\nvector w 1\nmatrix m 1 2\nmatrix n 2 1\nmatrix q 1 2\n"
GIVEN = [("input", k) for k in range(7)]
SHAPES = [(), (2,), (2,), (1,), (1, 2), (2, 1), (1, 2)]


class NodesTest(unittest.TestCase):
    """Point 27.4."""

    def check(self, text, nodes, shapes, last=None):
        plan = plan_of(INPUTS + text)
        self.assertEqual(plan, ("nodes", 97, GIVEN + nodes, SHAPES + shapes, 6 + len(nodes) if last is None else last))

    def test_operations(self):
        for word, e, shape in (("dot", "u, v", ()), ("sum", "u", ()), ("sum", "m", ()), ("product", "w", ()), ("mm", "m, n", (1, 1)), ("mm", "n, m", (2, 2)),
                               ("mv", "m, u", (1,)), ("mv", "n, w", (2,)), ("outer", "u, w", (2, 1)), ("outer", "w, w", (1, 1)), ("transpose", "m", (2, 1)),
                               ("transform", "u", (2,))):
            places = tuple("auvwmnq".index(letter) for letter in e.split(", "))
            self.check(f"claim {word}({e})", [(word,) + places], [shape])
        for sign, word in (("+", "add"), ("-", "sub")):
            for x, y, shape in (("a", "a", ()), ("u", "v", (2,)), ("m", "q", (1, 2))):
                self.check(f"claim {x} {sign} {y}", [(word, "auvwmnq".index(x), "auvwmnq".index(y))], [shape])

    def test_products(self):
        """The number comes first, and the first one of two numbers."""
        self.check("claim u * v", [("times", 1, 2)], [(2,)])
        self.check("claim m * q", [("times", 4, 6)], [(1, 2)])
        self.check("claim a * u", [("scale", 0, 1)], [(2,)])
        self.check("claim u * a", [("scale", 0, 1)], [(2,)])
        self.check("claim m * 5", [("number", 5), ("scale", 7, 4)], [(), (1, 2)])
        self.check("claim 5 * a", [("number", 5), ("scale", 7, 0)], [(), ()])
        self.check("claim a * 5", [("number", 5), ("scale", 0, 7)], [(), ()])
        self.check("claim dot(u, v) * a", [("dot", 1, 2), ("scale", 7, 0)], [(), ()])

    def test_negative_ones(self):
        """The expression, then the number, then both."""
        self.check("claim -u", [("number", 96), ("scale", 7, 1)], [(), (2,)])
        self.check("claim -5", [("number", 5), ("number", 96), ("scale", 8, 7)], [(), (), ()])
        self.check("claim --a", [("number", 96), ("scale", 7, 0), ("scale", 7, 8)], [(), (), ()])
        self.check("claim -(u + v)", [("add", 1, 2), ("number", 96), ("scale", 8, 7)], [(2,), (), (2,)])

    def test_the_order(self):
        self.check("let x = 2 + a\nlet y = u * x\nclaim dot(v - y, y + v)",
                   [("number", 2), ("add", 7, 0), ("scale", 8, 1), ("sub", 2, 9), ("add", 9, 2), ("dot", 10, 11)], [(), (), (2,), (2,), (2,), ()])

    def test_nodes_that_are_there_already(self):
        self.check("let x = u + v\nlet y = u + v\nclaim x * y", [("add", 1, 2), ("times", 7, 7)], [(2,), (2,)])
        self.check("claim 3 + 3 * 3", [("number", 3), ("scale", 7, 7), ("add", 7, 8)], [(), (), ()])
        # The other way round it is another node.
        self.check("claim dot(u, v) + dot(v, u)", [("dot", 1, 2), ("dot", 2, 1), ("add", 7, 8)], [(), (), ()])
        self.check("claim a * u + u * a", [("scale", 0, 1), ("add", 7, 7)], [(2,), (2,)])
        # An input is always a node of its own.
        self.assertEqual(plan_of("number a\nnumber b\nclaim a")[2], [("input", 0), ("input", 1)])

    def test_the_last_node(self):
        """That of the claim, which may stand anywhere."""
        self.check("claim u", [], [], 1)
        self.check("let x = u + v\nlet y = x + x\nclaim x", [("add", 1, 2), ("add", 7, 7)], [(2,), (2,)], 7)
        self.assertEqual(plan_of("claim 96"), ("nodes", 97, [("number", 96)], [()], 0))

    def test_samples(self):
        many = 0
        for p in (2, 5, 97):
            for seed in range(150):
                try:
                    program = parse_large(LargeSampler(seed, p).text())
                    plan = kept(self, nodes_of, program)
                except (TextError, SizeError):
                    continue
                plain = PlainNodes(program)
                self.assertEqual(plan, ("nodes", p, plain.nodes, plain.shapes, plain.last))
                many += 1
        self.assertGreater(many, 200)


class FaultsTest(unittest.TestCase):
    """Point 27.6."""

    def wrong(self, kind, line, text, p=97):
        program = parse_large(f"field {p}\n{text}")
        raised(self, ProgramError, "kind", kind, nodes_of, program)
        raised(self, ProgramError, "line", line, nodes_of, program)

    def large(self, limit, text):
        raised(self, SizeError, "limit", limit, nodes_of, parse_large(f"field 97\n{text}"))

    def test_primes(self):
        for p in (4, 9, 2147483646):
            self.wrong("prime", 1, "matrix a 8 8\nclaim b", p)
        self.assertEqual(plan_of("claim 1", 2)[1], 2)

    def test_names(self):
        self.wrong("name", 2, "claim x")
        self.wrong("name", 3, "number x\nvector x 1\nclaim x")
        self.wrong("name", 3, "number x\nlet x = 1\nclaim x")
        self.wrong("name", 3, "let x = 1\nlet x = 2\nclaim x")
        self.wrong("name", 2, "let x = x\nclaim x")
        self.wrong("name", 2, "let x = y\nlet y = 1\nclaim x")
        self.wrong("name", 2, "claim dot")
        self.wrong("name", 3, "let x = 1\nclaim dot(x, y)")

    def test_numbers(self):
        self.wrong("number", 2, "claim 97")
        self.wrong("number", 3, "let x = 96\nlet y = x * 97\nclaim 98")
        self.wrong("number", 2, "claim 2", 2)
        self.assertEqual(plan_of("claim 96")[2], [("number", 96)])

    def test_kinds(self):
        for e in ("a + u", "u - a", "u + w", "m + n", "m - q + n", "u * w", "u * m", "m * n", "dot(a, u)", "dot(u, w)", "dot(m, q)", "dot(u, a)", "sum(a)", "sum(3)",
                  "product(a)", "product(m)", "mm(m, q)", "mm(u, m)", "mm(m, u)", "mm(a, m)", "mv(m, w)", "mv(u, m)", "mv(m, m)", "mv(m, a)", "mv(u, v)", "mv(w, w)", "mv(a, u)", "outer(a, u)",
                  "outer(u, a)", "outer(m, u)", "outer(u, m)", "transpose(u)", "transpose(a)", "transform(m)", "transform(a)"):
            self.wrong("kind", 9, INPUTS + "claim " + e)
            self.wrong("kind", 9, INPUTS + f"let x = {e}\nclaim a")

    def test_vectors_with_one_entry_are_no_numbers(self):
        self.wrong("kind", 3, "vector x 0\nclaim x + 1")
        self.wrong("kind", 4, "vector x 0\nvector y 1\nclaim x * y")
        self.wrong("kind", 4, "vector x 0\nmatrix y 0 0\nclaim x + y")
        self.assertEqual(plan_of("vector x 0\nmatrix y 0 0\nclaim outer(x, x) + y")[3][-1], (0, 0))

    def test_dimensions(self):
        for text in ("matrix x 8 0\nclaim x", "vector x 8\nclaim x", "matrix x 4 4\nclaim mm(x, x)", "vector x 4\nclaim outer(x, x)",
                     "matrix x 4 4\nmatrix y 4 4\nclaim mm(x, y)"):
            plan_of(text)
        for text in ("matrix x 8 1\nclaim 1", "matrix x 1 8\nclaim 1", "matrix x 8 8\nclaim 1", "vector x 5\nvector y 4\nclaim outer(x, y)",
                     "matrix x 8 0\nmatrix y 0 8\nclaim mm(x, y)", "matrix x 5 3\nmatrix y 3 4\nlet z = mm(x, y)\nclaim 1"):
            self.large("dims", text)

    def test_how_many_nodes(self):
        def text(inputs, numbers):
            return "".join(f"number a{k}\n" for k in range(inputs)) + f"claim {' + '.join(str(k) for k in range(numbers))}"

        # So many numbers and one sum less.
        self.assertEqual(len(plan_of(text(1, 32))[2]), 64)
        self.assertEqual(len(plan_of(text(39, 13))[2]), 64)
        self.large("nodes", text(2, 32))
        self.large("nodes", text(40, 13))
        # A node that is there already is not the 65th.
        whole = "number a\nlet x = 0 + 1\nclaim " + " + ".join(str(k) for k in range(32))
        self.assertEqual(len(plan_of(whole)[2]), 64)
        self.large("nodes", whole + " - 0")
        # With too many dimensions it is not asked whether it is the 65th.
        full = "number a\nvector x 8\nlet y = " + " + ".join(str(k) for k in range(31)) + "\n"
        self.assertEqual(len(plan_of(full + "let z = y + y\nclaim 0")[2]), 64)
        self.large("dims", full + "let z = y + y\nclaim outer(x, x)")
        self.large("nodes", full + "let z = y + y\nclaim transform(x)")

    def test_the_first_fault(self):
        # The prime, then the inputs, lets and claim; of each its name first.
        self.wrong("prime", 1, "number x\nmatrix x 8 8\nclaim 1", 9)
        self.wrong("name", 3, "number x\nmatrix x 8 8\nclaim 1")
        self.large("dims", "number x\nmatrix y 8 8\nnumber x\nclaim z")
        self.wrong("name", 3, "number x\nlet x = 97\nclaim z")
        self.wrong("number", 3, "number x\nlet y = 97\nclaim z")
        # Operands come before what is made of them, the first one first.
        self.wrong("number", 3, "vector x 1\nclaim (x + 97) + y")
        self.wrong("kind", 3, "vector x 1\nclaim (x + 1) + 97")
        self.wrong("name", 3, "vector x 1\nclaim dot(y, 97)")
        self.wrong("number", 3, "vector x 1\nclaim dot(97, y)")
        self.large("dims", "vector x 5\nclaim outer(x, x) + 97")
        self.wrong("number", 3, "vector x 5\nclaim 97 + outer(x, x)")
        # The kind of an operation comes before its size.
        self.wrong("kind", 4, "vector x 5\nmatrix y 4 4\nclaim outer(x, y)")

    def test_the_number_of_a_negative(self):
        """It is made behind the expression."""
        full = "number a\nclaim " + " + ".join(str(k) for k in range(31))
        self.assertEqual(len(plan_of(full)[2]), 62)
        self.large("nodes", full + " * -96")
        self.wrong("kind", 4, "vector x 1\nlet y = -x\nclaim -(y + 1)")


class UsesTest(unittest.TestCase):
    def test_counts(self):
        for text, expected in (("number a\nclaim a", [1]), ("number a\nnumber b\nclaim b", [0, 1]), ("number a\nclaim a + a", [2, 1]),
                               ("vector a 1\nlet b = 2 * a - a\nclaim dot(b, b)", [2, 1, 1, 2, 1]),
                               # What the claim does not need has no claims, and makes none.
                               ("number a\nlet b = a * a\nlet c = b + b\nclaim b", [2, 1, 0]), ("number a\nlet b = a * a\nclaim a", [1, 0]),
                               # A node with several claims asks about its operands once.
                               ("number a\nlet b = a * a\nclaim b + b * b", [2, 3, 1, 1])):
            plan = plan_of(text)
            self.assertEqual(kept(self, uses, plan[2], plan[4]), expected)

    def test_nothing_is_shared(self):
        program = parse_large("field 97\nvector a 1\nclaim dot(a, a)")
        unshared(self, nodes_of(program), program)


if __name__ == "__main__":
    unittest.main()
