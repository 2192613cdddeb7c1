"""Points 14.2 to 14.5: from texts to trees, and the line of the first token that does not fit."""

import unittest

from layerask.errors import TextError
from layerask.parsing import parse_expression, parse_program
from layerask.tokens import tokenize
from layerask.trees import write_program
from plain import raised
from programs import chained, name, num, sample_program, without_lines

A, B, C, D = name("a"), name("b"), name("c"), name("d")

EXPRESSIONS = (
    ("12", num(12)), ("a", A), ("(a)", A), ("((a))", A), ("f(a)", ("call", "f", [A])), ("f (\na , b\n)", ("call", "f", [A, B])),
    ("[a, b]", ("array", [A, B])), ("a [ 0 ] [ b ]", ("at", ("at", A, num(0)), B)), ("3[0]", ("at", num(3), num(0))),
    ("(a + b)[c]", ("at", ("+", A, B), C)), ("[a][b][c]", ("at", ("at", ("array", [A]), B), C)),
    ("-a", ("neg", A)), ("--a", ("neg", ("neg", A))), ("- - a[b]", ("neg", ("neg", ("at", A, B)))), ("(-a)[b]", ("at", ("neg", A), B)),
    ("-a ^ 2", ("power", ("neg", A), 2)), ("-(a ^ 2)", ("neg", ("power", A, 2))), ("a ^ 0", ("power", A, 0)),
    ("(a ^ 2) ^ 64", ("power", ("power", A, 2), 64)), ("a[b] ^ 2", ("power", ("at", A, B), 2)),
    ("a + b * c", ("+", A, ("*", B, C))), ("a * b + c", ("+", ("*", A, B), C)), ("a - b - c", ("-", ("-", A, B), C)),
    ("a - b + c", ("+", ("-", A, B), C)), ("a * b * c", ("*", ("*", A, B), C)), ("a * b ^ 2", ("*", A, ("power", B, 2))),
    ("a - -b", ("-", A, ("neg", B))), ("a--b", ("-", A, ("neg", B))), ("a * -b + c", ("+", ("*", A, ("neg", B)), C)),
    ("a == b + c", ("==", A, ("+", B, C))), ("a + b == c", ("==", ("+", A, B), C)), ("(a == b) == c", ("==", ("==", A, B), C)),
    ("not a", ("not", A)), ("not not a", ("not", ("not", A))), ("not a == b", ("not", ("==", A, B))),
    ("not a and b", ("and", ("not", A), B)), ("a and not b", ("and", A, ("not", B))), ("not a or not b", ("or", ("not", A), ("not", B))),
    ("a or not b and c", ("or", A, ("and", ("not", B), C))), ("(not a) == b", ("==", ("not", A), B)),
    ("a or b and c", ("or", A, ("and", B, C))), ("a and b or c", ("or", ("and", A, B), C)), ("a or b or c", ("or", ("or", A, B), C)),
    ("a and b and c", ("and", ("and", A, B), C)), ("a == b and c == d", ("and", ("==", A, B), ("==", C, D))),
    ("a == b or not c == d", ("or", ("==", A, B), ("not", ("==", C, D)))),
    ("a and b == c or d", ("or", ("and", A, ("==", B, C)), D)),
    ("if a then b else c", ("if", A, B, C)), ("if a then b else c + d", ("if", A, B, ("+", C, D))),
    ("if a or b then c else d", ("if", ("or", A, B), C, D)), ("(if a then b else c) + d", ("+", ("if", A, B, C), D)),
    ("if a then if a then b else c else d", ("if", A, ("if", A, B, C), D)),
    ("if if a then b else c then c else d", ("if", ("if", A, B, C), C, D)),
    ("if a then b else if c then c else d", ("if", A, B, ("if", C, C, D))),
    ("sum i < 3: a or b", ("sum", "i", 3, ("or", A, B))), ("product i < 1 : a", ("product", "i", 1, A)),
    ("each i<64:each j<2:a", ("each", "i", 64, ("each", "j", 2, A))), ("a + (sum i < 3: a) * b", ("+", A, ("*", ("sum", "i", 3, A), B))),
    ("repeat 3 with x = a: b + c", ("repeat", 3, "x", A, ("+", B, C))),
    ("repeat 64 with x = sum i < 2: a: if a then b else c", ("repeat", 64, "x", ("sum", "i", 2, A), ("if", A, B, C))),
    ("f(if a then b else c, sum i < 2: a)", ("call", "f", [("if", A, B, C), ("sum", "i", 2, A)])),
    ("[repeat 1 with x = a: b][sum i < 2: a]", ("at", ("array", [("repeat", 1, "x", A, B)]), ("sum", "i", 2, A))),
    ("not (if a then b else c)", ("not", ("if", A, B, C))), ("0 ^ 0", ("power", num(0), 0)),
    ("9999999999", num(9999999999)), ("a # b\n+ # c\nd", ("+", A, D)),
)

# Texts with one token in each line; the error has the line of the first one that does not fit.
WRONG = (
    ("", 1), ("+", 1), (")", 1), ("]", 1), ("^", 1), ("field", 1), ("then", 1), ("output", 1), ("a b", 2), ("a 1", 2), ("1 a", 2),
    ("1 ( a )", 2), ("a )", 2), ("a ]", 2), ("a ,", 2), ("a =", 2), ("a :", 2), ("a <", 2), ("a then", 2), ("a let", 2), ("a not b", 2),
    ("( )", 2), ("( a", 3), ("( a ]", 3), ("( a , b )", 3), ("[ ]", 2), ("[ a", 3), ("[ a )", 3), ("[ a , ]", 4), ("[ , a ]", 2),
    ("f ( )", 3), ("f ( a", 4), ("f ( a ]", 4), ("f ( a , )", 5), ("f ( a b )", 4), ("f ( a ) ( b )", 5), ("( f ) ( a )", 4),
    ("a [ ]", 3), ("a [ b", 4), ("a [ b )", 4), ("a [ b , c ]", 4), ("- a ^ 2 [ 0 ]", 5),
    ("-", 2), ("- not a", 2), ("- if a then b else c", 2), ("- + a", 2), ("+ a", 1), ("a +", 3), ("a + + b", 3), ("a * / b", 3),
    ("a ^", 3), ("a ^ b", 3), ("a ^ - 1", 3), ("a ^ ( 2 )", 3), ("a ^ 2 ^ 3", 4), ("a ^ 65", 3), ("a ^ 9999999999", 3), ("- a ^ 2 ^ 2", 5),
    ("a == b == c", 4), ("a == b + c == d", 6), ("not a == b == c", 5), ("a and b == c == d", 6), ("a == b and c == d == a", 8),
    ("a == ( b == c ) == d", 8), ("( a == b == c )", 5), ("a or b == c == d or a", 6),
    ("a == not b", 3), ("a + not b", 3), ("a * not b", 3), ("not not", 3), ("not and", 2), ("a and or b", 3), ("a or", 3),
    ("not a + not b", 4), ("a == b == not c", 4),
    ("not if a then b else c", 2), ("a and if a then b else c", 3), ("a or sum i < 2 : a", 3), ("a + repeat 2 with x = a : b", 3),
    ("a == each i < 2 : a", 3), ("a * product i < 2 : a", 3), ("if a then b else c [ 0 ] if", 10),
    ("if then", 2), ("if a", 3), ("if a else b", 3), ("if a then", 4), ("if a then b", 5), ("if a then b then", 5),
    ("if a then b else", 6), ("if a then b else else", 6), ("if a then b else c else d", 7),
    ("sum", 2), ("sum 3", 2), ("sum sum", 2), ("sum i", 3), ("sum i = 3", 3), ("sum i <", 4), ("sum i < n", 4), ("sum i < 0 : a", 4),
    ("sum i < 65 : a", 4), ("sum i < - 1 : a", 4), ("sum i < 3", 5), ("sum i < 3 = a", 5), ("sum i < 3 :", 6), ("each i < 0 : a", 4),
    ("product i < 65 : a", 4), ("sum i < 3 : a : b", 7), ("sum ( i < 3 ) : a", 2),
    ("repeat", 2), ("repeat n", 2), ("repeat 0 with x = a : b", 2), ("repeat 65 with x = a : b", 2), ("repeat 3 x", 3),
    ("repeat 3 with", 4), ("repeat 3 with 4", 4), ("repeat 3 with x : a", 5), ("repeat 3 with x == a", 5), ("repeat 3 with x =", 6),
    ("repeat 3 with x = a", 7), ("repeat 3 with x = a = b", 7), ("repeat 3 with x = a :", 8), ("repeat 3 with x = a : b :", 9),
)


def in_lines(text):
    """Each word in a line of its own; the end is in the line behind them."""
    return "".join(word + "\n" for word in text.split())


def wrong(test, text, line, parse=parse_expression):
    raised(test, TextError, "line", line, parse, text)


class ExpressionTest(unittest.TestCase):
    def test_trees(self):
        for text, tree in EXPRESSIONS:
            self.assertEqual(parse_expression(text), tree, text)

    def test_wrong_ones(self):
        for text, line in WRONG:
            wrong(self, in_lines(text), line)

    def test_the_end_has_its_line(self):
        wrong(self, "a +\n\n\n", 4)
        wrong(self, "a + # more\n", 2)
        wrong(self, "\n\n", 3)
        wrong(self, "(a\n# )", 2)


class ProgramTest(unittest.TestCase):
    def test_a_program(self):
        text = ("# a program\nfield 97\ninput a input b[3]\n\nlet c = a\nfunction\nf(u,\nv[64]) = u let d\n= c + d\n"
                "output a output\nb\noutput [a]")
        self.assertEqual(parse_program(text), ("program", 97, [("a", 0, 3), ("b", 3, 3)], [
            ("let", "c", A, 5), ("function", "f", [("u", 0, 7), ("v", 64, 8)], name("u"), 6), ("let", "d", ("+", C, D), 8)],
            [(A, 10), (B, 10), (("array", [A]), 12)]))

    def test_the_smallest_program(self):
        self.assertEqual(parse_program("field 4 output 1"), ("program", 4, [], [], [(num(1), 1)]))

    def test_inputs_have_the_line_of_their_name(self):
        tree = parse_program("field 7\ninput\na\n[\n2\n]\noutput\na\n[\n0\n]")
        self.assertEqual(tree, ("program", 7, [("a", 2, 3)], [], [(("at", A, num(0)), 7)]))

    def test_wrong_ones(self):
        for text, line in (
                ("", 1), ("97", 1), ("input a", 1), ("field", 2), ("field p", 2), ("field 1", 2), ("field 0", 2), ("field 2147483648", 2),
                ("field 2", 3), ("field 2147483647", 3), ("field 2 field", 3), ("field 2 a", 3),
                ("field 2 input", 4), ("field 2 input 3", 4), ("field 2 input let", 4), ("field 2 input a", 5), ("field 2 input a b", 5),
                ("field 2 input a (", 5), ("field 2 input a [", 6), ("field 2 input a [ n", 6), ("field 2 input a [ 0 ]", 6),
                ("field 2 input a [ 65 ]", 6), ("field 2 input a [ 64 ]", 8), ("field 2 input a [ 1 )", 7), ("field 2 input a [ 1 ] [", 8),
                ("field 2 let", 4), ("field 2 let 1", 4), ("field 2 let a", 5), ("field 2 let a == 1", 5), ("field 2 let a = let", 6),
                ("field 2 let a = 1", 7), ("field 2 let a = 1 2", 7), ("field 2 let a = 1 input b", 7), ("field 2 let a ( b ) = 1", 5),
                ("field 2 function", 4), ("field 2 function 1", 4), ("field 2 function f", 5), ("field 2 function f = 1", 5),
                ("field 2 function f ( )", 6), ("field 2 function f ( a", 7), ("field 2 function f ( a b )", 7),
                ("field 2 function f ( a , )", 8), ("field 2 function f ( a [ 65 ] )", 8), ("field 2 function f ( 1 )", 6),
                ("field 2 function f ( a )", 8), ("field 2 function f ( a ) 1", 8), ("field 2 function f ( a ) =", 9),
                ("field 2 function f ( a ) = a", 10), ("field 2 function f ( a ) = a input b", 10),
                ("field 2 output", 4), ("field 2 output output", 4), ("field 2 output 1 2", 5), ("field 2 output 1 let a = 1", 5),
                ("field 2 output 1 input a", 5), ("field 2 output 1 field 2", 5), ("field 2 output 1 )", 5), ("field 2 output 1 output", 6)):
            wrong(self, in_lines(text), line, parse_program)

    def test_every_beginning(self):
        """A word that never fits, and the end, at each place of programs with one token in each line."""
        whole = set()
        for seed in range(25):
            words = [str(token[1]) for token in tokenize(write_program(sample_program(seed, 97)))[:-1]]
            for at in range(1, len(words)):
                wrong(self, "\n".join(words[:at] + ["field"] + words[at:]), at + 1, parse_program)
                text = "\n".join(words[:at])
                try:
                    parse_program(text + "\n")
                    whole.add(at)
                except TextError as error:
                    self.assertEqual(error.line, at + 1)
        self.assertTrue(whole)

    def test_samples(self):
        for seed in range(200):
            tree = sample_program(seed, 101)
            words = [str(token[1]) for token in tokenize(write_program(tree))[:-1]]
            self.assertEqual(without_lines(parse_program("\n".join(words))), without_lines(tree))


class LimitTest(unittest.TestCase):
    """Each limit of point 14.5 met exactly, and exceeded by one."""

    def test_modulus(self):
        for p in (2, 4, 2147483647):
            self.assertEqual(parse_program(f"field {p} output 1")[1], p)
        for p in (0, 1, 2147483648, 9999999999):
            wrong(self, f"field\n{p}\noutput 1", 2, parse_program)

    def test_sizes_and_counts(self):
        for many in (1, 64):
            self.assertEqual(parse_program(f"field 2 input a[{many}] output 1")[2], [("a", many, 1)])
            self.assertEqual(parse_program(f"field 2 function f(a[{many}]) = 1 output 1")[3][0][2], [("a", many, 1)])
            for word in ("sum", "product", "each"):
                self.assertEqual(parse_expression(f"{word} i < {many}: a"), (word, "i", many, A))
            self.assertEqual(parse_expression(f"repeat {many} with x = a: b"), ("repeat", many, "x", A, B))
        for many in (0, 65):
            wrong(self, f"field 2 input a[\n{many}\n] output 1", 2, parse_program)
            wrong(self, f"field 2 function f(a[\n{many}\n]) = 1 output 1", 2, parse_program)
            for word in ("sum", "product", "each"):
                wrong(self, f"{word} i <\n{many}\n: a", 2)
            wrong(self, f"repeat\n{many}\nwith x = a: b", 2)

    def test_powers(self):
        for many in (0, 1, 64):
            self.assertEqual(parse_expression(f"a ^ {many}"), ("power", A, many))
        wrong(self, "a ^\n65\n", 2)

    def test_lists(self):
        for first, last, kind in (("f(", ")", "call"), ("[", "]", "array")):
            e = parse_expression(first + "\n,".join(["a"] * 64) + last)
            self.assertEqual((e[0], e[-1]), (kind, [A] * 64))
            wrong(self, first + "\n,".join(["a"] * 65) + last, 65)
            wrong(self, first + "\n,".join(["a"] * 64) + "\n,\n)", 65)
            wrong(self, first + "\n,".join(["a"] * 64) + "\n;", 65)

    def test_parameters(self):
        cells = ", ".join(f"a{k}" for k in range(500))
        self.assertEqual(len(parse_program(f"field 2 function f({cells}) = 1 output 1")[3][0][2]), 500)

    def test_inputs_parts_and_outputs(self):
        inputs = [f"input a{k}" for k in range(41)]
        lets = [f"let b{k} = 1" for k in range(20)]
        functions = [f"function c{k}(x) = 1" for k in range(21)]
        outputs = ["output 1"] * 41

        def text(*lists):
            return "\n".join(["field 2"] + sum(lists, []))

        tree = parse_program(text(inputs[:40], lets, functions[:20], outputs[:40]))
        self.assertEqual([len(tree[k]) for k in (2, 3, 4)], [40, 40, 40])
        wrong(self, text(inputs, lets, outputs), 42, parse_program)
        wrong(self, text(inputs[:40], lets, functions, outputs), 82, parse_program)
        wrong(self, text(inputs[:40], functions[:20], lets, ["let x = 1"], outputs), 82, parse_program)
        wrong(self, text(outputs), 42, parse_program)
        wrong(self, text(inputs[:40], lets, functions[:20], outputs), 122, parse_program)

    def test_operators_and_places(self):
        for sign in ("+", "-", "*", "or", "and"):
            self.assertEqual(parse_expression(f"a {sign} 0" + f" {sign} 0" * 59), chained(A, 60, sign))
            wrong(self, "a" + f"\n{sign} 0" * 61, 62)
        self.assertEqual(parse_expression("a" + "[0]" * 60)[0], "at")
        wrong(self, "a" + "\n[0]" * 61, 62)
        wrong(self, "[" + "a == b," * 60 + "a\n==\nb]", 2)

    def test_operators_and_places_together(self):
        most = "[" + ", ".join(["a[b + c] * d"] * 20) + "]"
        self.assertEqual(len(parse_expression(most)[1]), 20)
        wrong(self, most + "\n[0]", 2)
        wrong(self, most + "\n+ a", 2)
        wrong(self, most + "\n== a", 2)
        for fine in ("-" + most, f"f({most})", f"sum i < 2: {most}", f"not {most}", f"{most} ^ 3", f"if a then {most} else b",
                     f"repeat 3 with x = {most}: b", f"({most})"):
            parse_expression(fine)

    def test_each_expression_counts_anew(self):
        most = "a" + " + 0" * 60
        text = f"field 7\ninput a\nlet b = {most}\nfunction f(a) = {most}\noutput {most}\noutput {most}\n"
        self.assertEqual(parse_program(text)[4][1][0], chained(A, 60))
        for line, old in ((3, "let b = a"), (4, "f(a) = a"), (5, "output a")):
            wrong(self, text.replace(old, old + " + a", 1), line, parse_program)

    def test_open_parentheses(self):
        for first, last in (("(", ")"), ("f(", ")"), ("[", "]"), ("a[", "]"), ("-", ""), ("not ", ""), ("sum i < 2: ", ""),
                            ("product i < 2: ", ""), ("each i < 2: ", ""), ("repeat 2 with x = a: ", ""), ("if a then b else ", ""),
                            ("repeat 2 with x = ", ": a"), ("if ", " then a else b"), ("if a then ", " else b")):
            parse_expression(first * 12 + "a" + last * 12)
            wrong(self, (first + "\n") * 13 + "a" + last * 13, 13)
            wrong(self, first * 12 + "\n" + "(a)" + last * 12, 2)
            wrong(self, first * 12 + "\n" + "-a" + last * 12, 2)

    def test_what_is_closed_again(self):
        deep = "(" * 11 + "a" + ")" * 11
        many = ["f(a)", "[a]", "a[0]", "-a", "(not a)", "(sum i < 2: a)"]
        parse_expression("(" + " + ".join(many * 5 + [deep]) + ")")
        parse_expression("(" * 11 + "-a ^ 2 + -a - -b * -c" + ")" * 11)
        parse_expression("(" * 11 + "not a and not b or not c" + ")" * 11)
        parse_expression("-" * 12 + "a + " + "-" * 12 + "b")
        parse_expression("(" * 11 + "if a then b else c" + ")" * 11)
        wrong(self, "(" * 11 + "not\n(a)" + ")" * 11, 2)
        wrong(self, "(" * 11 + "-a\n[\n-b]" + ")" * 11, 2)
        wrong(self, "(" * 11 + "a\n[\n-b]" + ")" * 11, 3)
        parse_expression("(" * 11 + "a[0] + b[0]" + ")" * 11)
        wrong(self, "(" * 11 + "(\n-a)[0]" + ")" * 11, 2)

    def test_parameters_and_sizes_open_nothing(self):
        self.assertEqual(len(parse_program("field 2 function f(a[3]) = " + "(" * 12 + "a" + ")" * 12 + " output 1")[3]), 1)


if __name__ == "__main__":
    unittest.main()
