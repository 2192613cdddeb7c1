"""Points 15.1 to 15.5: names, kinds, sizes, steps and depth of programs."""

import unittest
from copy import deepcopy

from layerask.errors import ProgramError, SizeError
from layerask.parsing import parse_program
from layerask.sizes import check, count_numbers, output_sizes
from layerask.trees import write_program
from plain import kept
from programs import all_steps, chained, functions_of, name, num, plain_depth, plain_steps, program, sample_program

# Inputs and parts that most of the texts below have: a number, arrays, a flag, functions.
HEAD = """field 97
input n
input m
input a[3]
input b[3]
input c[2]
let k = n == m
function one(x) = x + 1
function two(x, y[2]) = x + y[1]
function arr(x) = [x, x, x]
function flag(x) = x == 1
function dup(x[2]) = x
"""


def parsed(text, head=HEAD):
    return parse_program(head + text)


def sizes(text, head=HEAD):
    return output_sizes(parsed(text, head))


class FaultTest(unittest.TestCase):
    def fault(self, kind, line, tree):
        """Both functions must raise this ProgramError, and leave the program as it was."""
        before = deepcopy(tree)
        for function in (check, output_sizes):
            with self.assertRaises(ProgramError) as caught:
                function(tree)
            self.assertEqual((caught.exception.kind, caught.exception.line), (kind, line))
        self.assertEqual(tree, before)

    def text_fault(self, kind, text, head=HEAD, line=13):
        self.fault(kind, line, parsed(text, head))

    def too_large(self, limit, tree):
        for function in (check, output_sizes):
            with self.assertRaises(SizeError) as caught:
                function(tree)
            self.assertEqual(caught.exception.limit, limit)


class KindTest(FaultTest):
    """Point 15.1: valid expressions and their sizes."""

    def test_sizes_of_outputs(self):
        for e, size in (
                ("1", 0), ("96", 0), ("n", 0), ("a", 3), ("k", 0), ("a[2]", 0), ("n ^ 0", 0), ("k ^ 2", 0), ("-n", 0), ("-k", 0), ("-a", 3),
                ("n + k", 0), ("k + k", 0), ("a + b", 3), ("a - b", 3), ("n * m", 0), ("n * a", 3), ("a * n", 3), ("k * a", 3), ("a * k", 3),
                ("n == k", 0), ("not k", 0), ("k and not k or k", 0), ("[1]", 1), ("[n, k, a[0]]", 3), ("each i < 64: i", 64), ("each i < 1: k", 1),
                ("sum i < 3: a[i]", 0), ("product i < 2: k", 0), ("one(n)", 0), ("one(k)", 0), ("two(n, c)", 0), ("two(k, [1, k])", 0),
                ("arr(n)", 3), ("flag(n)", 0), ("not flag(n)", 0), ("dup(c)", 2), ("arr(1) + a", 3), ("if k then n else m", 0), ("if k then a else b", 3),
                ("if k then k else n", 0), ("if flag(n) then k else k", 0), ("not (if k then k else k)", 0),
                ("repeat 3 with x = n: x + 1", 0), ("repeat 3 with x = a: x + b", 3), ("repeat 3 with x = k: n", 0), ("repeat 3 with x = n: k", 0),
                ("repeat 2 with x = a: each i < 3: x[2 - i]", 3), ("(if k then a else b)[1]", 0), ("[a[0], b[1]][1]", 0), ("arr(2)[0]", 0),
                ("each i < 3: sum j < 3: a[i] * b[j]", 3), ("(a + b)[2]", 0), ("(each i < 4: i)[3]", 0), ("0 * a", 3)):
            self.assertEqual(sizes(f"output {e}"), [size], e)
            self.assertIsNone(check(parsed(f"output {e}")))

    def test_a_flag_is_kept(self):
        for e in ("k", "flag(n)", "not k", "n == m", "k and k", "k or k", "if k then k else flag(n)"):
            self.assertEqual(sizes(f"let z = {e}\noutput not z\noutput if z then 1 else 2"), [0, 0])

    def test_a_flag_is_lost(self):
        for e in ("k + 0", "k * k", "-k", "k ^ 1", "sum i < 1: k", "product i < 1: k", "[k][0]", "if k then k else n", "if k then n else k",
                  "repeat 1 with x = k: k", "repeat 1 with x = n: k", "(each i < 1: k)[0]", "one(k)"):
            self.text_fault("kind", f"output not ({e})")
        self.text_fault("kind", "function f(x) = not x\noutput 1")
        self.text_fault("kind", "output repeat 2 with x = k: not x")
        self.text_fault("kind", "output sum i < 2: not i")

    def test_several_outputs(self):
        self.assertEqual(sizes("output a\noutput n\noutput k\noutput dup(c)\noutput a"), [3, 0, 0, 2, 3])

    def test_count_numbers(self):
        self.assertEqual([kept(self, count_numbers, given) for given in ([], [0], [3], [0, 1, 0, 64])], [0, 1, 3, 67])

    def test_results_are_fresh(self):
        tree = parsed("output n")
        found = output_sizes(tree)
        found.append(5)
        self.assertEqual(output_sizes(tree), [0])

    def test_samples(self):
        for seed in range(500):
            tree = sample_program(seed, 97, 2 + seed % 3)
            if all_steps(tree) <= 20000:
                self.assertIsNone(kept(self, check, tree))
                self.assertIsNone(check(parse_program(write_program(tree))))


class PrimeTest(FaultTest):
    def test_prime(self):
        for p in (4, 91, 2147483646, 65536, 9):
            self.text_fault("prime", f"\n\nfield {p}\ninput a input a output 99", "", 1)
        for p in (2, 3, 97, 2147483647):
            self.assertEqual(sizes(f"field {p} output 1", ""), [0])


class NameTest(FaultTest):
    def test_unknown_names(self):
        for e in ("z", "one", "z[0]", "one[0]", "z(1)", "n(1)", "a(1)", "k(1)", "x", "not z", "f", "one + 1", "sum i < 2: j", "one(x)", "i",
                  "(sum i < 2: i) + i", "i + (sum i < 2: i)", "(repeat 2 with x = n: x) + x", "repeat 2 with x = x: n", "sum i < 2: i(1)",
                  "repeat 2 with x = 1: x(1)", "two(one, c)"):
            self.text_fault("name", f"output {e}")

    def test_what_a_function_sees(self):
        for body in ("n", "a[0]", "k", "f(x)", "g(x)", "z"):
            self.text_fault("name", f"function f(x) = {body}\nfunction g(x) = x\noutput 1")
        self.assertEqual(sizes("function f(n, a) = n + a + one(n)\nfunction g(k[5]) = k\noutput f(1, 2)\noutput g([1, 2, 3, 4, 5])"), [0, 5])

    def test_what_comes_later(self):
        self.text_fault("name", "output f(1)")
        self.text_fault("name", "let z = y\nlet y = 1\noutput z")
        self.text_fault("name", "let z = z\noutput z")
        self.text_fault("name", "let z = f(1)\nfunction f(x) = x\noutput z")

    def test_names_that_are_introduced_twice(self):
        for part in ("let n = 1", "let a = 1", "let k = 1", "let one = 1", "function n(x) = 1", "function a(x) = 1", "function k(x) = 1",
                     "function one(x) = 1", "function f(x, x) = 1", "function f(x, y, x[2]) = 1", "function f(one) = 1", "function f(f) = 1",
                     "function f(x, dup[2]) = 1"):
            self.text_fault("name", f"{part}\noutput 1")
        self.text_fault("name", "field 97\ninput a\ninput b\ninput a[2]\noutput 1", "", 4)

    def test_parameters_have_their_line(self):
        self.text_fault("name", "function f(\nx,\ny,\nx) = 1\noutput 1", line=16)
        self.text_fault("name", "function f(\nx,\nf) = 1\noutput 1", line=15)
        self.text_fault("name", "function\none(\nx) = 1\noutput 1", line=13)
        self.text_fault("name", "function f(\nx) =\nz\noutput 1", line=13)

    def test_loop_variables(self):
        for form in ("sum {} < 2: 1", "product {} < 2: 1", "each {} < 2: 1", "repeat 2 with {} = 1: 1"):
            for word in ("n", "a", "k", "one", "dup"):
                self.text_fault("name", "output " + form.format(word))
            self.text_fault("name", f"output sum i < 2: (sum j < 2: ({form.format('i')})[0])" if form[0] == "e" else
                            f"output sum i < 2: (sum j < 2: ({form.format('i')}))")
            self.text_fault("name", f"function f(x) = {form.format('x')}\noutput 1")
            self.text_fault("name", f"function f(x) = {form.format('one')}\noutput 1")
            self.text_fault("name", f"output repeat 2 with x = 1: {form.format('x')}")
            # These are not visible there.
            self.assertEqual(sizes(f"let z = {form.format('z')}\noutput 1"), [0])
            self.assertEqual(sizes(f"function f(x) = {form.format('n')}\noutput 1"), [0])
            self.assertEqual(sizes(f"function f(x) = {form.format('f')}\noutput 1"), [0])
            self.assertEqual(sizes(f"let y = {form.format('z')}\nlet z = {form.format('y2')}\noutput 1"), [0])
        self.assertEqual(sizes("output (sum i < 2: i) + (sum i < 3: i) + (repeat 2 with i = 1: i)"), [0])
        self.assertEqual(sizes("output repeat 2 with i = (sum i < 2: i): i"), [0])
        self.text_fault("name", "function f(x) = sum f < 2: f(x)\noutput 1")


class NumberTest(FaultTest):
    def test_numbers_of_the_text(self):
        for e in ("97", "n + 9999999999", "[1, 97]", "sum i < 2: 97", "f2(97)", "two(97, c)"):
            self.text_fault("number" if "f2" not in e else "name", f"output {e}")
        self.text_fault("number", "field 2\noutput 2", "", 2)

    def test_other_numbers(self):
        self.assertEqual(sizes("field 2\ninput a[64]\noutput a[63] ^ 64 + (sum i < 64: a[i * 1 + 63 - 63])", ""), [0])
        self.assertEqual(sizes("output repeat 64 with x = n ^ 64: x"), [0])
        self.assertEqual(sizes("output a[9999999999 - 9999999998]"), [0])


class CallTest(FaultTest):
    def test_arguments(self):
        for e in ("one(n, n)", "two(n)", "two(n, c, c)", "dup(c, c)", "one(a, a)"):
            self.text_fault("call", f"output {e}")


class IndexTest(FaultTest):
    def test_values(self):
        for e in ("a[3]", "a[0 - 1]", "a[1 - 2]", "a[2 * 2]", "sum i < 4: a[i]", "sum i < 3: a[i + 1]", "sum i < 4: a[2 - i]", "sum i < 3: a[i * i]",
                  "a[9999999999]", "sum i < 2: sum j < 3: a[i + j]", "[1][1]", "arr(1)[3]", "each i < 64: [1, 2][i]", "a[97]", "a[97 * 97]",
                  "a[0 - 97]"):
            self.text_fault("index", f"output {e}")
        for e in ("a[2]", "a[0]", "a[2 * 2 - 2]", "sum i < 3: a[i]", "sum i < 3: a[2 - i]", "sum i < 2: a[2 * i]", "a[(1 + 1) * 1]",
                  "sum i < 2: sum j < 2: a[i + j]", "sum i < 3: sum j < 3: a[i * j - i * j + j]", "[1][0]", "[a[0], a[1]][1]",
                  "sum i < 2: (each j < 2: i + j)[i]", "a[(0 - 1) * (0 - 2)]"):
            self.assertEqual(sizes(f"output {e}"), [0])

    def test_what_may_not_stand_in_an_index(self):
        for index in ("n", "z", "k", "one", "one(1)", "z(1)", "-1", "--1", "1 ^ 1", "1 == 1", "not k", "k and k", "k or k", "a[0]", "[0]",
                      "if k then 1 else 1", "sum i < 1: i", "product i < 1: i", "repeat 1 with x = 1: x", "1 + n", "n - n", "0 * n", "(z)"):
            self.text_fault("index", f"output a[{index}]")
        self.text_fault("index", "output repeat 1 with x = 1: a[x]")
        self.text_fault("index", "function f(x, y[2]) = y[x]\noutput 1")
        self.text_fault("index", "output sum i < 2: a[i + (if k then i else i)]")
        self.text_fault("index", "output (sum i < 2: i) + a[i]")

    def test_loop_variables_of_a_caller(self):
        self.text_fault("index", "function f(y[2]) = y[i]\noutput sum i < 2: f(c)")

    def test_a_small_field(self):
        self.assertEqual(sizes("field 2\ninput a[3]\noutput sum i < 3: a[i]", ""), [0])
        self.text_fault("index", "field 2\ninput a[3]\noutput a[3]", "", 3)


class KindFaultTest(FaultTest):
    def test_kinds(self):
        for e in ("a == b", "n == a", "a == n", "a ^ 2", "sum i < 2: a", "product i < 2: a", "each i < 2: a", "[a]", "[1, a]", "[a, 1]", "not n", "not a",
                  "n and k", "k and n", "k or n", "a or k", "k and 1", "0 or k", "if n then 1 else 2", "if a then 1 else 2", "if 1 then 1 else 2",
                  "a + c", "a - c", "a + n", "n + a", "n - a", "k + a", "if k then a else c", "if k then a else n", "if k then n else a",
                  "if k then k else a", "repeat 2 with x = a: c", "repeat 2 with x = a: n", "repeat 2 with x = n: a", "repeat 2 with x = k: a",
                  "a * b", "a * c", "one(a)", "two(a, c)", "two(n, a)", "two(n, n)", "dup(a)", "dup(n)", "dup(k)", "n[0]", "k[0]", "1[0]",
                  "(n + m)[0]", "a[0][0]", "(sum i < 2: i)[0]", "one(n)[0]", "sum i < 2: i[0]"):
            self.text_fault("kind", f"output {e}")


class OrderTest(FaultTest):
    """Point 15.3: the first fault decides."""

    def test_parts_of_a_program(self):
        self.text_fault("prime", "field 9\ninput a\ninput a\nlet a = z\noutput 9", "", 1)
        self.text_fault("name", "field 7\ninput a\ninput a\nlet a = 9\noutput 9", "", 3)
        self.text_fault("number", "let y = 97\nlet n = z\noutput a == a")
        self.text_fault("call", "let y = 1\noutput one(1, 1)\noutput z", line=14)
        self.text_fault("kind", "output n\noutput n\noutput -a == 1\noutput z", line=15)

    def test_of_a_part(self):
        deep = chained(name("z"), 150)
        cells = [("x", 0, 3), ("x", 0, 4)]
        self.fault("name", 5, ("program", 97, [("n", 0, 2)], [("let", "n", deep, 5)], [(num(0), 6)]))
        self.fault("name", 5, ("program", 97, [("n", 0, 2)], [("function", "n", cells, deep, 5)], [(num(0), 6)]))
        self.fault("name", 4, ("program", 97, [("n", 0, 2)], [("function", "f", cells, deep, 5)], [(num(0), 6)]))
        self.too_large("depth", ("program", 97, [("n", 0, 2)], [("function", "f", cells[:1], deep, 5)], [(num(0), 6)]))
        self.too_large("depth", ("program", 97, [], [("let", "n", deep, 5)], [(num(99), 6)]))
        self.too_large("depth", ("program", 97, [], [], [(deep, 5), (num(99), 6)]))
        self.fault("number", 5, ("program", 97, [], [], [(num(99), 5), (deep, 6)]))

    def test_of_an_expression(self):
        for kind, e in (
                ("name", "z + 97"), ("number", "97 + z"), ("name", "(a == z) + 97"), ("kind", "(a == a) + z"), ("number", "97 ^ 2 + a"),
                ("name", "[a, z]"), ("number", "[a, 97, z]"), ("kind", "[a, a]"), ("name", "if n then z else 97"), ("number", "if n then 97 else z"),
                ("kind", "if not n then 97 else z"), ("name", "n and z"), ("kind", "not n and z"), ("name", "-z"), ("kind", "-(a == a)"),
                # A call: its name, all arguments, their number, their sizes.
                ("name", "z(97)"), ("name", "n(97)"), ("number", "one(97, 97)"), ("name", "one(a, z)"), ("call", "one(a, a)"), ("kind", "two(a, c)"),
                ("kind", "two(not n, z)"), ("call", "two(a)"),
                # A place: the array, that it is one, the index.
                ("name", "z[97]"), ("number", "97[z]"), ("kind", "n[z]"), ("index", "a[z]"), ("name", "[z][5]"), ("kind", "n[5]"), ("number", "[97][z]"),
                # A loop: the new name, then the rest.
                ("name", "sum n < 2: 97"), ("number", "sum i < 2: 97 + z"), ("kind", "sum i < 2: [a][0] + z"), ("name", "each one < 2: 97"),
                # A repeat: its first expression, the new name, the other expression.
                ("number", "repeat 2 with n = 97: z"), ("name", "repeat 2 with n = 1: 97"), ("number", "repeat 2 with x = 1: a + 97"),
                ("kind", "repeat 2 with n = a == a: z"), ("kind", "repeat 2 with x = 1: a")):
            self.text_fault(kind, f"output {e}")

    def test_turn_by_turn(self):
        """In the turn 0 the later place is wrong, in the turn 1 the earlier one."""
        self.text_fault("index", "output sum i < 2: [1][i] + [1][1 - i] + 97")
        self.text_fault("number", "output sum i < 2: [1, 1][i] + 97 + [1][i]")
        self.text_fault("kind", "output each i < 2: [[1][i]]")
        self.text_fault("index", "output each i < 2: [[1][1 - i]]")
        self.text_fault("kind", "output sum j < 2: sum i < 2: a * [1][j]")


class StepsTest(FaultTest):
    """Point 15.4."""

    def with_steps(self, steps, e, parts=(), inputs=(("n", 0), ("a", 3))):
        """A program in which the expression comes when so many steps are left."""
        filler = 20000 - steps - sum(plain_steps(part[-1], {}) for part in parts)
        lets = []
        while filler > 0:
            many = min(filler, 5000)
            lets.append(("let", f"z{len(lets)}", self.spending(many)))
            filler -= many
        return program(97, inputs, list(parts) + lets, [e])

    def spending(self, steps):
        """An expression with just so many steps."""
        if steps % 2 == 0:
            return ("neg", self.spending(steps - 1))
        e = [num(1)]
        while len(e) * 2 - 1 < steps:
            e.append(num(1))
        while len(e) > 1:
            joined = [("+", e[k], e[k + 1]) for k in range(0, len(e) - 1, 2)]
            e = joined + e[len(joined) * 2:]
        return e[0]

    def test_the_helper(self):
        for steps in (1, 2, 3, 10, 4999, 5000):
            self.assertEqual(plain_steps(self.spending(steps), {}), steps)
            self.assertEqual(all_steps(self.with_steps(steps, self.spending(steps))), 20000)

    def test_met_and_exceeded(self):
        f = ("function", "f", [("x", 0)], ("+", name("x"), ("neg", name("x"))))
        g = ("function", "g", [("x", 3)], ("neg", name("x")))
        n, a = name("n"), name("a")
        for e in (num(1), n, ("neg", a), ("not", ("==", n, n)), ("power", n, 5), ("+", n, n), ("*", n, a), ("==", n, n),
                  ("and", ("==", n, n), ("==", n, n)), ("if", ("==", n, n), n, ("neg", n)), ("array", [n, n, n]), ("at", a, num(1)),
                  ("at", a, ("+", num(1), ("*", num(0), num(5)))), ("at", ("neg", a), num(1)), ("sum", "i", 5, ("+", n, name("i"))),
                  ("product", "i", 3, ("at", a, name("i"))), ("each", "i", 64, n), ("sum", "i", 7, ("sum", "j", 8, ("neg", name("j")))),
                  ("repeat", 9, "x", ("neg", n), ("+", n, ("neg", name("x")))), ("repeat", 1, "x", n, n), ("repeat", 3, "x", n, ("repeat", 4, "y", n, n)),
                  ("call", "f", [n]), ("call", "f", [("call", "f", [("neg", n)])]), ("call", "g", [("array", [n, n, n])]),
                  ("sum", "i", 6, ("call", "f", [name("i")])), ("repeat", 6, "x", n, ("call", "f", [name("x")]))):
            tree = self.with_steps(1000, e, (f, g))
            functions = functions_of(tree)
            steps = plain_steps(e, functions)
            self.assertIsNone(check(self.with_steps(steps, e, (f, g))))
            self.too_large("steps", self.with_steps(steps - 1, e, (f, g)))

    def test_all_parts_together(self):
        half = self.spending(5000)
        one = [("let", "y", half), ("function", "f", [("x", 0)], half)]
        self.assertIsNone(check(program(97, [], one, [half, half])))
        self.too_large("steps", program(97, [], one, [half, half, num(1)]))
        self.too_large("steps", program(97, [], one + [("let", "z", num(1))], [half, half]))

    def test_a_fault_before_decides(self):
        n, z = name("n"), name("z")
        # The steps that are left, an expression, and the kind of the fault, or None for "steps".
        for left, e, kind in (
                (0, z, None), (1, z, "name"), (0, num(97), None), (1, num(97), "number"), (1, ("neg", z), None), (2, ("neg", z), "name"),
                (2, ("+", n, z), None), (3, ("+", n, z), "name"), (2, ("+", z, n), "name"), (1, ("+", z, n), None),
                (1, ("call", "z", [n]), "name"), (0, ("call", "z", [n]), None), (1, ("sum", "n", 5, n), "name"), (0, ("sum", "n", 5, n), None),
                (2, ("at", name("a"), num(9)), "index"), (1, ("at", name("a"), num(9)), None), (2, ("at", n, num(9)), "kind"),
                (2, ("not", n), "kind"), (1, ("not", n), None), (3, ("==", name("a"), n), "kind"), (2, ("==", name("a"), n), None),
                # The call's own steps are counted behind its check.
                (3, ("call", "f", [n, n]), "call"), (2, ("call", "f", [n, n]), None), (2, ("call", "f", [name("a")]), "kind"),
                (1, ("call", "f", [name("a")]), None), (2, ("call", "f", [n]), None), (5, ("call", "f", [n]), None), (6, ("call", "f", [n]), ""),
                # Loops are counted turn by turn.
                (5, ("sum", "i", 3, ("at", ("array", [n]), name("i"))), None), (6, ("sum", "i", 3, ("at", ("array", [n]), name("i"))), None),
                (7, ("sum", "i", 3, ("at", ("array", [n]), name("i"))), "index"), (2, ("each", "i", 2, name("a")), "kind"),
                (1, ("each", "i", 2, name("a")), None),
                # The further rounds of a repeat are counted behind the comparison of its kind.
                (3, ("repeat", 64, "x", n, name("a")), "kind"), (2, ("repeat", 64, "x", n, name("a")), None), (3, ("repeat", 64, "x", n, n), None),
                (65, ("repeat", 64, "x", n, n), None), (66, ("repeat", 64, "x", n, n), ""), (2, ("repeat", 64, "n", n, n), "name"),
                (1, ("repeat", 64, "n", n, n), None), (3, ("repeat", 64, "x", n, z), "name")):
            f = ("function", "f", [("x", 0)], ("+", name("x"), ("neg", name("x"))))
            tree = self.with_steps(left, e, (f,))
            line = tree[4][0][1]
            if kind is None:
                self.too_large("steps", tree)
            elif kind == "":
                self.assertIsNone(check(tree))
            else:
                self.fault(kind, line, tree)

    def test_faults_behind_do_not_decide(self):
        great = ("each", "i", 64, ("sum", "j", 64, ("sum", "k", 64, num(1))))
        self.too_large("steps", program(97, [], [("let", "y", great), ("let", "y", num(99))], [name("z")]))
        self.fault("number", 2, program(97, [], [("let", "y", num(99)), ("let", "z", great)], [name("z")]))
        self.too_large("steps", program(97, [("a", 2)], [], [("+", great, name("a"))]))

    def test_great_functions(self):
        """Calls of calls: the steps are counted without evaluating the calls."""
        parts = [("function", "f0", [("x", 0)], ("+", name("x"), name("x")))]
        for k in range(1, 12):
            inside = ("call", f"f{k - 1}", [("call", f"f{k - 1}", [name("x")])])
            parts.append(("function", f"f{k}", [("x", 0)], inside))
        tree = program(97, [], parts, [num(1)])
        steps, here = 0, 3
        for _ in range(12):
            steps, here = steps + here, 2 * here + 3
        self.assertEqual(all_steps(tree), steps + 1)
        self.assertGreater(steps, 20000)
        self.too_large("steps", tree)
        self.assertIsNone(check(program(97, [], parts[:-1], [num(1)])))

    def test_samples(self):
        """Sampled programs with one more output, by which they just fit, or no longer do."""
        for seed in range(15):
            tree = sample_program(seed, 97, 4)
            room = 20000 - all_steps(tree)
            for many in (room, room + 1):
                longer = tree[:4] + (tree[4] + [(self.spending(many), 90)],)
                self.assertEqual(all_steps(longer), 20000 + many - room)
                if many == room:
                    self.assertIsNone(check(longer))
                else:
                    self.too_large("steps", longer)


class DepthTest(FaultTest):
    """Point 15.5."""

    def test_met_and_exceeded(self):
        n, a = name("n"), name("a")
        for wrap in (lambda e: ("neg", e), lambda e: ("+", n, e), lambda e: ("*", e, n), lambda e: ("power", e, 1),
                     lambda e: ("if", ("==", n, e), n, n), lambda e: ("if", ("==", n, n), e, n), lambda e: ("if", ("==", n, n), n, e),
                     lambda e: ("call", "f", [n, e]), lambda e: ("at", ("array", [n, e]), num(1)), lambda e: ("repeat", 1, "x", e, n),
                     lambda e: ("repeat", 1, "x", n, e), lambda e: ("sum", "i", 1, e)):
            f = ("function", "f", [("x", 0), ("y", 0)], num(1))
            e, tree = n, None
            while True:
                tree = program(97, [("n", 0), ("a", 3)], [f], [e])
                depth = plain_depth(e, functions_of(tree))
                if depth > 100:
                    break
                if depth > 97 and e[0] not in ("sum", "repeat"):
                    self.assertIsNone(check(tree))
                e = wrap(e)
            self.too_large("depth", tree)

    def test_exactly(self):
        for many, fits in ((99, True), (100, False)):
            for sign in ("+", "-", "*"):
                e = chained(name("n"), many, sign)
                tree = program(97, [("n", 0)], [], [e])
                self.assertEqual(plain_depth(e, {}), many + 1)
                if fits:
                    self.assertIsNone(check(tree))
                else:
                    self.too_large("depth", tree)

    def test_index_expressions_count(self):
        for many, fits in ((98, True), (99, False)):
            for index in (chained(num(1), many), chained(num(1), many, "-")):
                tree = program(97, [("a", 3)], [], [("at", name("a"), index)])
                if fits:
                    self.assertIsNone(check(tree))
                else:
                    self.too_large("depth", tree)
        self.too_large("depth", program(97, [("a", 3)], [], [("at", name("a"), chained(name("z"), 99))]))

    def test_functions_count(self):
        f = ("function", "f", [("x", 0)], chained(name("x"), 49))
        g = ("function", "g", [("x", 0)], ("call", "f", [name("x")]))
        for call, depth in (("f", 50), ("g", 51)):
            for many in (98 - depth, 99 - depth, 100 - depth):
                tree = program(97, [("n", 0)], [f, g], [chained(("call", call, [name("n")]), many)])
                self.assertEqual(plain_depth(tree[4][0][0], functions_of(tree)), depth + 1 + many)
                if depth + 1 + many <= 100:
                    self.assertIsNone(check(tree))
                else:
                    self.too_large("depth", tree)
        # The arguments count beside the function's expression, not on top of it.
        self.assertIsNone(check(program(97, [("n", 0)], [f], [("call", "f", [chained(name("n"), 98)])])))
        self.too_large("depth", program(97, [("n", 0)], [f], [("call", "f", [chained(name("n"), 99)])]))

    def test_functions_of_functions(self):
        parts = [("function", "f0", [("x", 0)], name("x"))]
        for k in range(1, 101):
            parts.append(("function", f"f{k}", [("x", 0)], ("call", f"f{k - 1}", [name("x")])))
        self.assertIsNone(check(program(97, [], parts[:100], [num(1)])))
        self.too_large("depth", program(97, [], parts, [num(1)]))
        self.too_large("depth", program(97, [], parts[:100], [("call", "f99", [num(1)])]))

    def test_unknown_functions_count_without(self):
        self.fault("name", 2, program(97, [], [], [chained(("call", "z", [num(1)]), 98)]))
        self.too_large("depth", program(97, [], [], [chained(("call", "z", [num(1)]), 99)]))
        f = ("function", "f", [("x", 0)], chained(name("x"), 98))
        self.fault("name", 2, program(97, [], [("let", "y", ("neg", ("call", "f", [num(1)]))), f], [num(1)]))
        self.fault("name", 3, program(97, [], [f, ("function", "g", [("x", 0)], chained(("call", "g", [num(1)]), 98))], [num(1)]))

    def test_depth_comes_before_steps_and_faults(self):
        great = ("each", "i", 64, ("sum", "j", 64, ("sum", "k", 64, chained(name("z"), 100))))
        self.too_large("depth", program(97, [], [], [great]))
        great = ("each", "i", 64, ("sum", "j", 64, ("sum", "k", 64, num(1))))
        self.too_large("steps", program(97, [], [("let", "y", great)], [chained(num(1), 100)]))

    def test_very_deep_ones(self):
        self.too_large("depth", program(97, [("n", 0)], [], [chained(name("n"), 20000)]))
        e = name("n")
        for _ in range(20000):
            e = ("neg", e)
        self.too_large("depth", program(97, [("n", 0)], [], [e]))


if __name__ == "__main__":
    unittest.main()
