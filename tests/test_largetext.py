"""Points 27.1 to 27.3: the texts of large expressions."""

import unittest

from layerask.errors import TextError
from layerask.largetext import parse_large
from plain import raised
from plainlarge import LargeSampler, call, name, num


def claim_of(text):
    """The expression behind "claim"."""
    return parse_large("field 97\nclaim " + text)[4][0]


class TreesTest(unittest.TestCase):
    """Point 27.3."""

    def test_programs(self):
        self.assertEqual(parse_large("field 97 claim 5"), ("large", 97, [], [], (num(5), 1)))
        text = "field 97\nnumber a\n\nvector b 3 matrix c 0\n8\nlet d = a\nlet\ne = b\n\nclaim\nd"
        self.assertEqual(parse_large(text), ("large", 97, [("a", (), 2), ("b", (3,), 4), ("c", (0, 8), 4)],
                                             [("d", name("a"), 6), ("e", name("b"), 7)], (name("d"), 10)))

    def test_lines_are_those_of_the_first_words(self):
        program = parse_large("field\n97\nvector\na\n2\nlet\nb\n=\na\nclaim\n\nb")
        self.assertEqual(program, ("large", 97, [("a", (2,), 3)], [("b", name("a"), 6)], (name("b"), 10)))

    def test_shapes(self):
        for number in (0, 1, 8):
            self.assertEqual(parse_large(f"field 97 vector a {number} claim a")[2], [("a", (number,), 1)])
            self.assertEqual(parse_large(f"field 97 matrix a {number} {8 - number} claim a")[2], [("a", (number, 8 - number), 1)])

    def test_grouping(self):
        a, b, c = name("a"), name("b"), name("c")
        for text, e in (("a + b - c", ("-", ("+", a, b), c)), ("a - b + c", ("+", ("-", a, b), c)), ("a * b * c", ("*", ("*", a, b), c)),
                        ("a + b * c", ("+", a, ("*", b, c))), ("a * b + c", ("+", ("*", a, b), c)), ("(a + b) * c", ("*", ("+", a, b), c)),
                        ("a * (b * c)", ("*", a, ("*", b, c))), ("-a * b", ("*", ("neg", a), b)), ("-(a * b)", ("neg", ("*", a, b))), ("--a", ("neg", ("neg", a))),
                        ("a - -b", ("-", a, ("neg", b))), ("a * -b", ("*", a, ("neg", b))), ("((a))", a), ("-a - b", ("-", ("neg", a), b)), ("2 * 3", ("*", num(2), num(3)))):
            self.assertEqual(claim_of(text), e)

    def test_calls(self):
        a, b = name("a"), name("b")
        for word in ("dot", "mm", "mv", "outer"):
            self.assertEqual(claim_of(f"{word}(a, b)"), call(word, a, b))
        for word in ("sum", "product", "transpose", "transform"):
            self.assertEqual(claim_of(f"{word}(a)"), call(word, a))
        self.assertEqual(claim_of("-dot(a + b, sum ( b ) * a)"), ("neg", call("dot", ("+", a, b), ("*", call("sum", b), a))))

    def test_names_that_are_no_words(self):
        """The names of inputs and calls, and "claim", may be names of inputs and lets, too."""
        for word in ("number", "vector", "matrix", "claim", "dot", "mm", "mv", "outer", "transpose", "transform"):
            self.assertEqual(parse_large(f"field 97 number {word} let x = {word} claim {word}"),
                             ("large", 97, [(word, (), 1)], [("x", name(word), 1)], (name(word), 1)))
            self.assertEqual(parse_large(f"field 97 let {word} = 1 claim {word} + 1")[3], [(word, num(1), 1)])
        self.assertEqual(claim_of("dot(dot, mm) + dot"), ("+", call("dot", name("dot"), name("mm")), name("dot")))

    def test_comments_and_spaces(self):
        self.assertEqual(parse_large("# x\nfield 97 # vector\nvector a 1# let\n  claim  sum(#)\na)\n"), ("large", 97, [("a", (1,), 3)], [], (call("sum", name("a")), 4)))

    def test_samples(self):
        for seed in range(60):
            text = LargeSampler(seed, 97).text()
            # What is written with all parentheses has at most as many open as may be, or is refused for it.
            try:
                program = parse_large(text)
            except TextError:
                continue
            self.assertEqual([line for _, _, line in program[2]], list(range(2, len(program[2]) + 2)))
            self.assertEqual(program[4][1], len(text.split("\n")))


class ErrorsTest(unittest.TestCase):
    """Point 27.2: the line of the first token that does not fit."""

    def wrong(self, line, text):
        raised(self, TextError, "line", line, parse_large, text)

    def test_tokens(self):
        self.wrong(2, "claim\n$")
        self.wrong(1, "field 97 number a1234567890123456 claim 1")
        self.wrong(3, "$".join(["field 97\n\n", "\n"]))
        self.wrong(2, "field\n01")

    def test_the_field(self):
        self.wrong(1, "")
        self.wrong(3, "\n\n97")
        self.wrong(2, "field\nclaim 1")
        for p in (0, 1, 2147483648, 9999999999):
            self.wrong(2, f"field\n{p}\nclaim 1")
        for p in (2, 4, 2147483647):
            self.assertEqual(parse_large(f"field {p} claim 1")[1], p)

    def test_inputs(self):
        for text in ("number\n5 claim 1", "number\nsum claim 1", "vector a\nclaim 1", "vector a\n9 claim 1", "matrix a 1\nclaim 1", "matrix a 8\n9 claim 1",
                     "matrix a\n9 1 claim 1", "number a\n5 claim 1", "vector a 1\n1 claim 1", "matrix a 1 1\n1 claim 1", "vector\nlet claim 1", "vector a\n-1 claim 1"):
            self.wrong(2, "field 97 " + text)

    def test_names_before_an_input(self):
        """A name that is none of the three should be "claim"; its own line is told."""
        for word in ("tensor", "Number", "vectors", "dot", "a"):
            self.wrong(3, f"field 97\nnumber a\n{word} b 1\nclaim a")
        # Behind the lets there is no input any more.
        for word in ("number", "vector", "matrix", "a"):
            self.wrong(3, f"field 97\nlet a = 1\n{word} b 1\nclaim a")
        for word in ("input", "output", "sum", "let"):
            self.wrong(2 if word != "let" else 3, f"field 97\n{word}\n5 claim 1")

    def test_the_claim(self):
        self.wrong(2, "field 97\n")
        self.wrong(3, "field 97\nclaim\n")
        self.wrong(4, "field 97\nclaim 1\n\nclaim 2")
        self.wrong(3, "field 97\nclaim 1\nlet a = 1")
        self.wrong(3, "field 97\nclaim 1\n1")
        self.wrong(3, "field 97\nclaim 1\n)")
        self.wrong(2, "field 97\n5")

    def test_lets(self):
        for text in ("let\n5 = 1", "let a\n5", "let a\n== 1", "let a =\n", "let a = 1\n=", "let a =\nlet b = 1", "let sum\n= 1"):
            self.wrong(1 if text.startswith("let sum") else 2, "field 97 " + text)

    def test_expressions(self):
        for text in ("a +\n", "a + \n* b", "(a\n", "(a\n]", "()", "(\n)", "a\n^ 2", "a\n[0]", "a\n== b", "a\nb", "-\n", "-\n* a", "a\nand b", "+\na", "5\n(a)", "not\na",
                     "if a then b else c", "sum\n i < 3: a", "product\na", "sum\n", "a\n, b"):
            first = text.startswith(("()", "+", "not", "if"))
            self.wrong(1 if first else 2, "field 97 claim " + text)

    def test_calls(self):
        """The token that is one argument too many, or stands where one is missing."""
        for word in ("dot", "mm", "mv", "outer"):
            for text in ("(a\n)", "(a, b\n, c)", "(\n)", "(a,\n)", "(a, b\n", "(a\nb)"):
                self.wrong(2, f"field 97 claim {word}{text}")
        for word in ("sum", "product", "transpose", "transform"):
            for text in ("(a\n, b)", "(\n)", "(a\n", "(a\nb)"):
                self.wrong(2, f"field 97 claim {word}{text}")

    def test_names_before_a_call(self):
        for word in ("a", "Dot", "sums", "number", "claim", "vector", "dots"):
            self.wrong(3, f"field 97\nclaim {word}\n(a, b)")
            self.wrong(4, f"field 97\nclaim 1 +\n{word}\n(a)")


class LimitsTest(unittest.TestCase):
    """Point 27.2: limits that are met exactly and exceeded by one."""

    def wrong(self, line, text):
        raised(self, TextError, "line", line, parse_large, text)

    def test_inputs_and_lets(self):
        for many in (40, 41):
            inputs = "".join(f"number a{k}\n" for k in range(many))
            lets = "".join(f"let\nb{k} = 1\n" for k in range(many))
            if many == 40:
                self.assertEqual(len(parse_large(f"field 97\n{inputs}{lets}claim 1")[2]), 40)
            else:
                self.wrong(42, f"field 97\n{inputs}claim 1")
                self.wrong(82, f"field 97\n{lets}claim 1")

    def test_operators(self):
        for sign in "+-*":
            parse_large("field 97 claim 1" + f" {sign} 1" * 60)
            self.wrong(2, "field 97 claim 1" + f" {sign} 1" * 60 + f"\n{sign} 1")
        # They are counted in parentheses and calls, too; signs of negative factors are not.
        parse_large("field 97 claim dot(a" + " + a" * 30 + ", b" + " * b" * 29 + ") - -1")
        self.wrong(2, "field 97 claim dot(a" + " + a" * 30 + ", b" + " * b" * 30 + ")\n- 1")
        # Each let, and the claim, has its own.
        whole = "1" + " + 1" * 60
        parse_large(f"field 97 let a = {whole} let b = {whole} claim {whole}")
        self.wrong(3, f"field 97\nlet a = {whole}\n* 2 claim 1")

    def test_open_ones(self):
        for first, last in (("(", ")"), ("-", ""), ("sum(", ")"), ("transform(", ")")):
            parse_large("field 97 claim " + first * 12 + "a" + last * 12)
        for first, last in (("(", ")"), ("-", "")):
            self.wrong(2, "field 97 claim " + first * 12 + "\n" + first + "a" + last * 13)
        # Of a call, the parenthesis is the one too many, not its name.
        for word in ("sum", "dot", "transform"):
            self.wrong(3, "field 97 claim " + "(" * 12 + f"\n{word}\n(a)" + ")" * 12)
        self.wrong(2, "field 97 claim " + "(-sum(" * 4 + "\n-a" + "))" * 4)
        # What is closed is not open any more.
        parse_large("field 97 claim " + "(-sum(" * 4 + "a" + "))" * 4 + " + " + "(" * 12 + "a" + ")" * 12)
        parse_large("field 97 claim " + "(" * 10 + "dot((a), -b) + -a" + ")" * 10)
        self.wrong(2, "field 97 claim " + "(" * 11 + "dot(\n(a), b)" + ")" * 11)
        self.wrong(2, "field 97 claim " + "(" * 11 + "dot(a,\n-b)" + ")" * 11)

    def test_the_first_fault(self):
        self.wrong(2, "field 97 vector a 1\nvector b 9 claim a a")
        # All tokens are read before anything else.
        self.wrong(3, "field 97 vector a\n9 claim a\n$")


if __name__ == "__main__":
    unittest.main()
