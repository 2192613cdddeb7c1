"""Points 14.2 and 14.6: trees and their written form."""

import unittest

from layerask.parsing import parse_expression, parse_program
from layerask.trees import parts_of, write_expression, write_program
from plain import kept, lists_in, unshared
from programs import chained, inner, name, num, program, sample_program, without_lines

A, B, C = name("a"), name("b"), name("c")
IF = ("if", A, B, C)
SUM = ("sum", "i", 3, A)
REPEAT = ("repeat", 2, "x", A, B)

WRITTEN = (
    (num(0), "0"), (num(9999999999), "9999999999"), (A, "a"),
    (("call", "f", [A]), "f(a)"), (("call", "f", [A, num(1), IF]), "f(a, 1, if a then b else c)"),
    (("array", [A]), "[a]"), (("array", [A, ("array", [B]), SUM]), "[a, [b], sum i < 3: a]"),
    (("at", A, num(1)), "a[1]"), (("at", ("at", A, num(1)), ("+", B, num(2))), "a[1][b + 2]"),
    (("at", num(5), IF), "5[if a then b else c]"), (("at", ("call", "f", [A]), B), "f(a)[b]"),
    (("at", ("array", [A, B]), C), "[a, b][c]"), (("at", ("+", A, B), C), "(a + b)[c]"),
    (("at", ("neg", A), C), "(-a)[c]"), (("at", ("power", A, 2), C), "(a ^ 2)[c]"), (("at", SUM, C), "(sum i < 3: a)[c]"),
    (("at", ("not", A), C), "(not a)[c]"),
    (("neg", A), "-a"), (("neg", ("neg", A)), "--a"), (("neg", num(1)), "-1"), (("neg", ("at", A, B)), "-a[b]"),
    (("neg", ("call", "f", [A])), "-f(a)"), (("neg", ("array", [A])), "-[a]"),
    (("neg", ("power", A, 2)), "-(a ^ 2)"), (("neg", ("*", A, B)), "-(a * b)"), (("neg", ("not", A)), "-(not a)"),
    (("neg", IF), "-(if a then b else c)"),
    (("power", A, 0), "a ^ 0"), (("power", num(2), 64), "2 ^ 64"), (("power", ("neg", A), 2), "-a ^ 2"),
    (("power", ("at", A, B), 2), "a[b] ^ 2"), (("power", ("call", "f", [A]), 2), "f(a) ^ 2"),
    (("power", ("array", [A]), 2), "[a] ^ 2"), (("power", ("power", A, 2), 3), "(a ^ 2) ^ 3"),
    (("power", ("+", A, B), 2), "(a + b) ^ 2"), (("power", ("not", A), 2), "(not a) ^ 2"),
    (("power", REPEAT, 2), "(repeat 2 with x = a: b) ^ 2"), (("power", ("neg", ("power", A, 2)), 3), "-(a ^ 2) ^ 3"),
    (("not", A), "not a"), (("not", ("not", A)), "not not a"), (("not", ("==", A, B)), "not a == b"),
    (("not", ("+", A, B)), "not a + b"), (("not", ("neg", A)), "not -a"), (("not", ("and", A, B)), "not (a and b)"),
    (("not", ("or", A, B)), "not (a or b)"), (("not", IF), "not (if a then b else c)"),
    (("not", ("power", A, 2)), "not a ^ 2"),
    (("+", A, B), "a + b"), (("+", ("+", A, B), C), "a + b + c"), (("+", A, ("+", B, C)), "a + (b + c)"),
    (("-", ("+", A, B), C), "a + b - c"), (("+", ("-", A, B), C), "a - b + c"), (("-", A, ("-", B, C)), "a - (b - c)"),
    (("*", ("*", A, B), C), "a * b * c"), (("*", A, ("*", B, C)), "a * (b * c)"),
    (("+", ("*", A, B), C), "a * b + c"), (("+", A, ("*", B, C)), "a + b * c"), (("*", ("+", A, B), C), "(a + b) * c"),
    (("*", A, ("-", B, C)), "a * (b - c)"), (("-", A, ("neg", B)), "a - -b"), (("+", ("neg", A), B), "-a + b"),
    (("*", ("power", A, 2), ("neg", B)), "a ^ 2 * -b"), (("+", A, ("not", B)), "a + (not b)"),
    (("+", ("not", A), B), "(not a) + b"), (("*", A, IF), "a * (if a then b else c)"), (("+", SUM, A), "(sum i < 3: a) + a"),
    (("==", A, B), "a == b"), (("==", ("==", A, B), C), "(a == b) == c"), (("==", A, ("==", B, C)), "a == (b == c)"),
    (("==", ("+", A, B), ("*", B, C)), "a + b == b * c"), (("+", ("==", A, B), C), "(a == b) + c"),
    (("==", ("not", A), B), "(not a) == b"), (("==", A, ("not", B)), "a == (not b)"), (("==", ("and", A, B), C), "(a and b) == c"),
    (("and", ("and", A, B), C), "a and b and c"), (("and", A, ("and", B, C)), "a and (b and c)"),
    (("or", ("or", A, B), C), "a or b or c"), (("or", A, ("or", B, C)), "a or (b or c)"),
    (("or", ("and", A, B), C), "a and b or c"), (("or", A, ("and", B, C)), "a or b and c"),
    (("and", ("or", A, B), C), "(a or b) and c"), (("and", A, ("or", B, C)), "a and (b or c)"),
    (("and", ("not", A), ("not", B)), "not a and not b"), (("or", ("not", A), ("==", B, C)), "not a or b == c"),
    (("and", A, IF), "a and (if a then b else c)"), (("or", SUM, A), "(sum i < 3: a) or a"), (("==", A, SUM), "a == (sum i < 3: a)"),
    (IF, "if a then b else c"), (("if", IF, IF, IF), "if if a then b else c then if a then b else c else if a then b else c"),
    (("if", ("not", A), SUM, ("or", A, B)), "if not a then sum i < 3: a else a or b"),
    (SUM, "sum i < 3: a"), (("product", "i", 64, SUM), "product i < 64: sum i < 3: a"),
    (("each", "i", 1, ("or", A, B)), "each i < 1: a or b"), (("each", "i", 1, IF), "each i < 1: if a then b else c"),
    (REPEAT, "repeat 2 with x = a: b"), (("repeat", 64, "x", SUM, REPEAT), "repeat 64 with x = sum i < 3: a: repeat 2 with x = a: b"),
)


class WriteTest(unittest.TestCase):
    def test_expressions(self):
        for e, text in WRITTEN:
            self.assertEqual(kept(self, write_expression, e), text)

    def test_they_are_parsed_again(self):
        for e, text in WRITTEN:
            self.assertEqual(parse_expression(text), e)

    def test_programs(self):
        tree = program(97, [("a", 0), ("b", 3)], [("let", "c", A), ("function", "f", [("u", 0), ("v", 64)], B),
                                                  ("function", "g", [("u", 1)], IF)], [A, SUM])
        text = ("field 97\ninput a\ninput b[3]\nlet c = a\nfunction f(u, v[64]) = b\n"
                "function g(u[1]) = if a then b else c\noutput a\noutput sum i < 3: a\n")
        self.assertEqual(kept(self, write_program, tree), text)
        self.assertEqual(without_lines(parse_program(text)), without_lines(tree))
        self.assertEqual(write_program(program(2)), "field 2\noutput 0\n")

    def test_sampled_programs_are_parsed_again(self):
        for seed in range(400):
            tree = sample_program(seed, 97, 2 + seed % 3)
            text = write_program(tree)
            self.assertEqual(without_lines(parse_program(text)), without_lines(tree))
            self.assertEqual(write_program(parse_program(text)), text)
            self.assertNotRegex(text, r"  | \n|\( | \)|\[ | \]")

    def test_deep_ones(self):
        text = write_expression(chained(A, 150))
        self.assertEqual(text, "a" + " + 0" * 150)
        e = A
        for _ in range(150):
            e = ("at", ("neg", e), num(0))
        self.assertEqual(write_expression(e), "(-" * 150 + "a" + ")[0]" * 150)


class PartsTest(unittest.TestCase):
    def test_parts(self):
        f, array = ("call", "f", [A, B, A]), ("array", [C, IF])
        for e, parts in ((A, []), (num(3), []), (f, [A, B, A]), (array, [C, IF]), (("at", A, B), [A, B]), (("neg", A), [A]),
                         (("not", A), [A]), (("power", A, 3), [A]), (IF, [A, B, C]), (SUM, [A]), (("product", "i", 2, B), [B]),
                         (("each", "i", 2, f), [f]), (REPEAT, [A, B])):
            self.assertEqual(kept(self, parts_of, e), parts)
            self.assertIsInstance(parts_of(e), list)
        for sign in ("+", "-", "*", "==", "and", "or"):
            self.assertEqual(kept(self, parts_of, (sign, A, f)), [A, f])

    def test_parts_of_samples(self):
        def look(e):
            self.assertEqual(kept(self, parts_of, e), inner(e))
            for part in inner(e):
                look(part)

        for seed in range(60):
            for e, _ in sample_program(seed, 97)[4]:
                look(e)

    def test_they_share_no_list(self):
        e = ("neg", ("if", ("call", "f", [("array", [A])]), ("array", [B]), ("sum", "i", 3, ("array", [C]))))
        found = parts_of(e)
        self.assertEqual(found, [e[1]])
        unshared(self, found, e)
        for held in lists_in(found):
            held.clear()
        self.assertEqual(e[1][1], ("call", "f", [("array", [A])]))


if __name__ == "__main__":
    unittest.main()
