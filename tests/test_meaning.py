"""Points 16.1 to 16.3: the meaning of programs."""

import unittest

from layerask.meaning import evaluate
from layerask.parsing import parse_program
from layerask.sizes import check, count_numbers, output_sizes
from plain import GREATEST, Numbers, kept, lists_in
from programs import all_steps, chained, name, num, plain_meaning, program, sample_numbers, sample_program


def meaning(text, numbers, p=7):
    return evaluate(parse_program(f"field {p}\n{text}"), numbers)


class RowTest(unittest.TestCase):
    """Point 16.1: how inputs and outputs stand in a row."""

    def test_inputs_and_outputs(self):
        text = "input a[2] input n input b[3] output b output n output a output a[1] - b[0]"
        self.assertEqual(meaning(text, [1, 2, 3, 4, 5, 6]), [4, 5, 6, 3, 1, 2, 5])

    def test_without_inputs(self):
        self.assertEqual(meaning("output 5 output [1, 2]", []), [5, 1, 2])

    def test_arrays_of_one(self):
        self.assertEqual(meaning("input a[1] input b output a output b", [3, 4]), [3, 4])

    def test_nothing_is_changed_or_shared(self):
        for seed in range(40):
            tree = sample_program(seed, 97)
            found = kept(self, evaluate, tree, sample_numbers(tree, seed))
            self.assertEqual(len(found), count_numbers(output_sizes(tree)))
            self.assertEqual(len(lists_in(found)), 1)


class OperationTest(unittest.TestCase):
    """Point 16.2, modulo 7; n is 5, m is 3, a is 1 2 3, b is 4 5 6, k is 1 and z is 0."""

    HEAD = "input n input m input a[3] input b[3] let k = n == 5 let z = n == m "

    def check(self, e, *numbers):
        self.assertEqual(meaning(f"{self.HEAD} output {e}", [5, 3, 1, 2, 3, 4, 5, 6]), list(numbers), e)

    def test_numbers(self):
        for e, number in (("n + m", 1), ("m - n", 5), ("n * m", 1), ("-n", 2), ("-0", 0), ("n ^ 2", 4), ("n ^ 1", 5), ("n ^ 0", 1), ("0 ^ 0", 1),
                          ("(n - n) ^ 0", 1), ("0 ^ 5", 0), ("n ^ 64", pow(5, 64, 7)), ("-n ^ 2", 4), ("-(n ^ 2)", 3), ("6 + 6 + 6", 4), ("a[1]", 2),
                          ("(a + b)[2]", 2), ("[n, m][1]", 3), ("1 - 2 - 3", 3), ("2 * 3 + 4", 3)):
            self.check(e, number)

    def test_flags(self):
        for e, number in (("n == m", 0), ("n == 5", 1), ("n == m + 2", 1), ("k == z", 0), ("k == 1", 1), ("not k", 0), ("not z", 1), ("k and k", 1),
                          ("k and z", 0), ("z and k", 0), ("z and z", 0), ("k or k", 1), ("k or z", 1), ("z or k", 1), ("z or z", 0), ("k + k", 2),
                          ("-k", 6), ("k * 5", 5), ("not k or not z and k", 1)):
            self.check(e, number)

    def test_arrays(self):
        self.check("a + b", 5, 0, 2)
        self.check("a - b", 4, 4, 4)
        self.check("b - a", 3, 3, 3)
        self.check("-a", 6, 5, 4)
        self.check("n * a", 5, 3, 1)
        self.check("a * n", 5, 3, 1)
        self.check("k * a", 1, 2, 3)
        self.check("[n, k, a[2]]", 5, 1, 3)

    def test_if(self):
        self.check("if k then n else m", 5)
        self.check("if z then n else m", 3)
        self.check("if k then a else b", 1, 2, 3)
        self.check("if z then a else b", 4, 5, 6)
        self.check("if z then k else n", 5)
        self.check("if not z then if z then 1 else 2 else 3", 2)

    def test_loops(self):
        self.check("sum i < 4: i", 6)
        self.check("sum i < 64: 1", 1)
        self.check("product i < 4: i + 1", 3)
        self.check("product i < 64: n", pow(5, 64, 7))
        self.check("product i < 3: i", 0)
        self.check("each i < 3: i * i", 0, 1, 4)
        self.check("each i < 9: i", 0, 1, 2, 3, 4, 5, 6, 0, 1)
        self.check("sum i < 3: a[i] * b[2 - i]", 0)
        self.check("each i < 3: sum j < 3: a[i] * b[j]", 1, 2, 3)
        self.check("sum i < 1: n", 5)

    def test_a_loop_variable_is_its_value_in_an_index(self):
        """Behind the modulus the index goes on, where the number begins anew."""
        text = "input a[12] output each i < 12: a[11 - i] * i"
        self.assertEqual(meaning(text, [1] * 12, 5), [i % 5 for i in range(12)])
        text = "input a[12] output each i < 12: a[i]"
        self.assertEqual(meaning(text, [0, 1, 0, 0, 1, 1, 0, 1, 1, 1, 0, 0], 2), [0, 1, 0, 0, 1, 1, 0, 1, 1, 1, 0, 0])

    def test_a_loop_variable_and_a_let_of_the_same_name(self):
        self.assertEqual(meaning("let x = sum i < 3: i let i = x + 2 output i output sum j < 2: i", []), [5, 3])
        self.assertEqual(meaning("let x = repeat 2 with i = 1: i + i let i = x output i", []), [4])


class RepeatTest(unittest.TestCase):
    """Point 16.3."""

    def test_repeat(self):
        for many, number in ((1, 3), (2, 1), (3, 4), (64, None)):
            expected = 1
            for _ in range(many):
                expected = (2 * expected + 1) % 7
            self.assertEqual(meaning(f"output repeat {many} with x = 1: 2 * x + 1", []), [expected])
        self.assertEqual(meaning("input a[2] output repeat 3 with x = a: each i < 2: x[1 - i] + i", [1, 2]), [3, 3])
        self.assertEqual(meaning("output repeat 2 with x = 1 == 2: x + 3", []), [6])
        self.assertEqual(meaning("input n output repeat 3 with x = n: repeat 2 with y = x: y + 1", [4]), [3])

    def test_calls(self):
        text = "input n function f(x, y[2]) = x * y[0] + y[1] function g(n) = f(n, [n, 1]) output f(n, [2, 3]) output g(g(n)) output g(2) + n"
        self.assertEqual(meaning(text, [4]), [4, 3, 2])

    def test_arguments_have_their_own_names(self):
        text = "input n input x function f(x) = sum n < 3: x + n output f(n + 1) + x output sum i < 2: f(i)"
        self.assertEqual(meaning(text, [4, 5]), [(3 * 5 + 3 + 5) % 7, (3 + 3 + 3) % 7])

    def test_a_function_that_returns_its_parameter(self):
        self.assertEqual(meaning("input a[2] function f(x[2]) = x output f(f(a)) output f(a) + a", [1, 2]), [1, 2, 2, 4])


class SampleTest(unittest.TestCase):
    def test_samples(self):
        for p in (2, 3, 97, GREATEST):
            for seed in range(150):
                tree = sample_program(seed, p)
                numbers = sample_numbers(tree, seed)
                self.assertEqual(evaluate(tree, numbers), plain_meaning(tree, numbers))


class LargeTest(unittest.TestCase):
    """More parts and steps than other functions take, and the greatest depth."""

    def test_many_parts(self):
        parts = [("let", "v0", name("n"))]
        for k in range(1, 300):
            parts.append(("let", f"v{k}", ("+", name(f"v{k - 1}"), num(k))))
        tree = program(97, [("n", 0)], parts, [name("v299")] * 100)
        self.assertEqual(evaluate(tree, [5]), [(5 + 299 * 150) % 97] * 100)

    def test_many_steps(self):
        tree = parse_program("field 97 output sum i < 64: sum j < 64: sum k < 8: i + j * k")
        self.assertGreater(all_steps(tree), 20000)
        self.assertEqual(evaluate(tree, []), [sum(i + j * k for i in range(64) for j in range(64) for k in range(8)) % 97])

    def test_the_other_branch_has_no_effect(self):
        """Each function calls the one before in both branches; only one of them is gone through.

        The number 6 grows by 1 in all calls but that of f19, which meets it as 19.
        """
        parts = [("function", "f0", [("x", 0)], name("x"))]
        for k in range(1, 33):
            before = f"f{k - 1}"
            parts.append(("function", f"f{k}", [("x", 0)], ("if", ("==", name("x"), num(k)), ("call", before, [name("x")]),
                                                           ("call", before, [("+", name("x"), num(1))]))))
        self.assertEqual(evaluate(program(97, [("n", 0)], parts, [("call", "f32", [name("n")])]), [6]), [6 + 31])

    def test_the_greatest_depth(self):
        for e in (chained(name("n"), 99, "+"), ("neg", ("at", ("array", [chained(name("n"), 96)]), num(0)))):
            tree = program(97, [("n", 0)], [], [e])
            self.assertIsNone(check(tree))
            self.assertEqual(evaluate(tree, [5]), plain_meaning(tree, [5]))
        parts = [("function", "f0", [("x", 0)], name("x"))]
        for k in range(1, 99):
            parts.append(("function", f"f{k}", [("x", 0)], ("call", f"f{k - 1}", [name("x")])))
        self.assertEqual(evaluate(program(97, [], parts, [("call", "f98", [num(3)])]), []), [3])
        e = name("n")
        for _ in range(33):
            e = ("neg", ("at", ("array", [e]), num(0)))
        tree = program(97, [("n", 0)], [], [e])
        self.assertIsNone(check(tree))
        self.assertEqual(evaluate(tree, [5]), [92])

    def test_the_greatest_modulus(self):
        self.assertEqual(meaning("input n output n * n output -n output n ^ 64", [GREATEST - 1], GREATEST), [1, 1, 1])
        numbers = Numbers(5).many(2, GREATEST)
        self.assertEqual(meaning("input n input m output n * m output n == m", numbers, GREATEST), [numbers[0] * numbers[1] % GREATEST, 0])


if __name__ == "__main__":
    unittest.main()
