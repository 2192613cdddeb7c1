"""Points 23.1 to 23.4: texts with tables."""

import unittest

from layerask.errors import ProgramError, SizeError, TextError
from layerask.graphs import build, evaluate_graph
from layerask.meaning import evaluate
from layerask.parsing import parse_program
from layerask.sizes import check
from layerask.tables import coefficients, parse_with_tables, picking, read_tables
from plain import GREATEST, Numbers, kept, poly_value, raised, unshared
from programs import functions_of, plain_depth, plain_meaning

REST = "field 97\ninput a\noutput T(a)"


def many_entries(p):
    """Rows of entries of all lengths that a table may have."""
    for many in range(1, min(p, 32) + 1):
        yield Numbers(many).many(many, p)
        yield [0] * many
        yield [(3 * k + 1) % p for k in range(many)]


def term(c, k):
    return ("*", ("num", c), ("power", ("name", "x"), k))


class CoefficientsTest(unittest.TestCase):
    """Point 23.4."""

    def test_the_polynomial_has_the_entries(self):
        for p in (2, 3, 5, 31, 37, 97, GREATEST):
            for entries in many_entries(p):
                found = kept(self, coefficients, entries, p)
                self.assertEqual(len(found), len(entries))
                self.assertTrue(all(0 <= number < p for number in found))
                for at, entry in enumerate(entries):
                    self.assertEqual(sum(number * at ** k for k, number in enumerate(found)) % p, entry)

    def test_there_is_no_other_one(self):
        """As many entries as p tell every polynomial in just one way."""
        for first in range(3):
            for second in range(3):
                for third in range(3):
                    told = [first, second, third]
                    entries = [(first + second * t + third * t * t) % 3 for t in range(3)]
                    self.assertEqual(coefficients(entries, 3), told)
        self.assertEqual(coefficients([1, 0], 2), [1, 1])

    def test_one_entry(self):
        self.assertEqual(coefficients([5], 97), [5])
        self.assertEqual(coefficients([1], 2), [1])


class PickingTest(unittest.TestCase):
    """Point 23.4: the form of the expression."""

    def test_small_ones(self):
        def terms(*numbers):
            return [term(c, k) for k, c in enumerate(numbers)]

        a, b = terms(5, 54)
        self.assertEqual(picking([5, 59], 97), ("+", a, b))
        self.assertEqual(picking([5], 97), term(5, 0))
        a, b, c = terms(5, 54, 45)
        self.assertEqual(picking([5, 7, 2], 97), ("+", ("+", a, b), c))
        a, b, c, d = terms(7, 0, 0, 0)
        self.assertEqual(picking([7] * 4, 97), ("+", ("+", a, b), ("+", c, d)))
        a, b, c, d, e = terms(0, 0, 1, 0, 0)
        self.assertEqual(picking([0, 1, 4, 9, 16], 97), ("+", ("+", ("+", a, b), c), ("+", d, e)))

    def test_all_lengths(self):
        def split(terms):
            if len(terms) == 1:
                return terms[0]
            first = -(-len(terms) // 2)
            return ("+", split(terms[:first]), split(terms[first:]))

        for p in (2, 5, 37, GREATEST):
            for entries in many_entries(p):
                numbers = coefficients(entries, p)
                self.assertEqual(kept(self, picking, entries, p), split([term(c, k) for k, c in enumerate(numbers)]))


class ReadingTest(unittest.TestCase):
    """Point 23.1."""

    def test_tables_and_the_rest(self):
        self.assertEqual(read_tables("table T = 5 7 2\n" + REST), ([("T", [5, 7, 2], 1)], "\n" + REST))
        text = "field 97\n   table   T=1\ninput a # table\n\ntable b_2 = 0 4294967295 9999999999# all\noutput a\n table c = 3 # x\n"
        tables = [("T", [1], 2), ("b_2", [0, 4294967295, 9999999999], 5), ("c", [3], 7)]
        self.assertEqual(read_tables(text), (tables, "field 97\n\ninput a # table\n\n\noutput a\n\n"))

    def test_no_tables(self):
        for text in ("", "\n", REST, "tables T = 5", "tableT = 5", "a table T = 5", "# table T = 5", "table= 5", "table#", "Table T = 5", "table_ T = 5"):
            self.assertEqual(read_tables(text), ([], text))

    def test_names(self):
        """The word "table" is no word of the language, and so it may be a name."""
        self.assertEqual(read_tables("table table = 1"), ([("table", [1], 1)], ""))
        self.assertEqual(read_tables("table " + "n" * 16 + " = 1")[0], [("n" * 16, [1], 1)])

    def test_one_entry_and_many(self):
        for many in (1, 2, 31, 32):
            self.assertEqual(read_tables("table T = " + " ".join(["7"] * many)), ([("T", [7] * many, 1)], ""))
        for many in (0, 33, 64):
            raised(self, TextError, "line", 1, read_tables, "table T = " + " ".join(["7"] * many))

    def test_other_forms(self):
        for line in ("table", "table #", "table T", "table T =", "table T 1", "table = 1", "table T = x", "table T = 1, 2", "table T = 1 + 2", "table T == 1",
                     "table T = -1", "table T = 1 2 x", "table T = 01", "table T = 12345678901", "table sum = 1", "table 1 = 1", "table T = 1 $",
                     "table T[2] = 1 2", "table T T = 1", "table " + "n" * 17 + " = 1", "table _T = 1", "table T = 1 output 2", "table T = = 1", "table T = 1;"):
            for before in ("", "field 97\n", "\n\n# x\n", "table S = 1\n"):
                raised(self, TextError, "line", before.count("\n") + 1, read_tables, before + line)
                raised(self, TextError, "line", before.count("\n") + 1, parse_with_tables, before + line + "\n$")

    def test_the_first_wrong_table(self):
        raised(self, TextError, "line", 3, read_tables, "table T = 1\n$\ntable T\ntable")

    def test_many_tables(self):
        text = "\n".join(f"table t{k} = {k}" for k in range(100)) + "\n" + REST
        self.assertEqual(read_tables(text)[0], [(f"t{k}", [k], k + 1) for k in range(100)])


class ParsingTest(unittest.TestCase):
    """Points 23.2 and 23.3."""

    def test_the_program(self):
        text = "field 97\ninput a\nlet b = 2\ntable T = 5 7 2\nfunction f(x) = x\noutput T(a)\ntable S = 3"
        lines = text.split("\n")
        rest = parse_program("\n".join("" if line.startswith("table") else line for line in lines))
        functions = [("function", "T", [("x", 0, 4)], picking([5, 7, 2], 97), 4), ("function", "S", [("x", 0, 7)], picking([3], 97), 7)]
        self.assertEqual(parse_with_tables(text), rest[:3] + (functions + rest[3],) + rest[4:])

    def test_without_tables(self):
        for text in ("field 97\noutput 1", "field 9 output 1"):
            self.assertEqual(parse_with_tables(text), parse_program(text))

    def test_ahead_of_all_other_parts(self):
        """A let or a function before the line of the table may call it."""
        program = parse_with_tables("field 97\ninput a\nlet b = T(a)\nfunction f(y) = T(y) + 1\noutput b\noutput f(a)\ntable T = 5 7 2")
        check(program)
        self.assertEqual([evaluate(program, [k]) for k in range(3)], [[5, 6], [7, 8], [2, 3]])

    def test_text_errors_of_the_rest(self):
        raised(self, TextError, "line", 3, parse_with_tables, "table T = 1\nfield 97\noutput $")
        raised(self, TextError, "line", 1, parse_with_tables, "table T = 1")
        raised(self, TextError, "line", 5, parse_with_tables, "table T = 1\nfield 97\ninput a\n\ntable S = 2")
        # The tables come first, whatever the line.
        raised(self, TextError, "line", 4, parse_with_tables, "$\nfield 97\noutput $\ntable")
        # A table does not stand within a line, and takes the whole one.
        raised(self, TextError, "line", 2, parse_with_tables, "field 97\noutput 1 table T = 1")
        raised(self, TextError, "line", 2, parse_with_tables, "field 97\ntable T = 1 output 1")

    def test_program_errors(self):
        def wrong(kind, line, text):
            raised(self, ProgramError, "kind", kind, parse_with_tables, text)
            raised(self, ProgramError, "line", line, parse_with_tables, text)

        wrong("prime", 1, "\ntable T = 100\nfield 9\noutput 1")
        wrong("number", 2, "field 97\ntable T = 96 97\noutput 1")
        wrong("number", 1, "table T = 9999999999\nfield 97\noutput 1")
        wrong("table", 3, "field 5\ntable T = 1 2 3 4 0\ntable S = 1 2 3 4 0 1\noutput 1")
        # A number of a table is looked at before its length, and the first table before the second one.
        wrong("number", 2, "field 2\ntable T = 0 0 2\noutput 1")
        wrong("table", 2, "field 2\ntable T = 0 0 1\ntable S = 2\noutput 1")
        wrong("number", 2, "field 2\ntable S = 2\ntable T = 0 0 1\noutput 1")

    def test_as_many_entries_as_the_modulus(self):
        for p in (2, 3, 31):
            entries = Numbers(p).many(p, p)
            program = parse_with_tables(f"table T = {' '.join(map(str, entries))}\nfield {p}\ninput a\noutput T(a)")
            check(program)
            self.assertEqual([evaluate(program, [k]) for k in range(p)], [[entry] for entry in entries])
            raised(self, ProgramError, "kind", "table", parse_with_tables, f"table T ={' 1' * (p + 1)}\nfield {p}\noutput 1")

    def test_other_faults_have_the_line_of_the_table(self):
        def wrong(kind, line, text):
            program = parse_with_tables(text)
            raised(self, ProgramError, "kind", kind, check, program)
            raised(self, ProgramError, "line", line, check, program)

        wrong("name", 3, "field 97\ninput T\ntable T = 1\noutput 1")
        wrong("name", 3, "table T = 1\nfield 97\ntable T = 2\noutput 1")
        wrong("name", 2, "field 97\ntable x = 1\noutput 1")
        # The tables come ahead of the other parts: the later name is the let.
        wrong("name", 2, "field 97\nlet T = 1\ntable T = 1\noutput 1")
        wrong("name", 2, "field 97\noutput T\ntable T = 1")
        wrong("call", 2, "field 97\noutput T(1, 2)\ntable T = 1")
        wrong("kind", 3, "field 97\ninput a[2]\noutput T(a)\ntable T = 1")
        # Without tables a modulus that is no prime is found by the check.
        wrong("prime", 1, "\nfield 9\noutput 1")

    def test_tables_are_no_parts_of_the_text(self):
        lets = [f"let b{k} = 1" for k in range(40)]
        tables = [f"table t{k} = 1 2" for k in range(50)]
        program = parse_with_tables("\n".join(["field 97"] + lets + tables + ["output 1"]))
        self.assertEqual(len(program[3]), 90)
        check(program)
        raised(self, TextError, "line", 92, parse_with_tables, "\n".join(["field 97"] + tables + lets + ["let c = 1", "output 1"]))

    def test_the_largest_table(self):
        """It has more operators than a text may have, and a small depth."""
        entries = Numbers(5).many(32, GREATEST)
        program = parse_with_tables(f"table T = {' '.join(map(str, entries))}\nfield {GREATEST}\ninput a\noutput T(a)")
        check(program)
        functions = functions_of(program)
        self.assertEqual(plain_depth(functions["T"][3], functions), 8)
        self.assertEqual([evaluate(program, [k]) for k in range(32)], [[entry] for entry in entries])
        raised(self, SizeError, "limit", "steps", check, parse_with_tables(
            f"table T ={' 1' * 32}\nfield 97\noutput sum i < 64: sum j < 64: T(j)"))

    def test_what_is_returned_is_not_shared(self):
        tables, _ = read_tables("table T = 5 7\ntable S = 1")
        unshared(self, tables[0], tables[1])
        program = parse_with_tables("table T = 5 7\ntable S = 5 7\nfield 97\noutput 1")
        unshared(self, program[3][0], program[3][1])


class MeaningTest(unittest.TestCase):
    """Point 23.2: a call picks an entry; other values get those of the polynomial."""

    def test_all_values(self):
        for p, many in ((2, 1), (2, 2), (5, 3), (7, 7), (97, 1), (97, 8), (97, 32)):
            entries = Numbers(many).many(many, p)
            program = parse_with_tables(f"field {p}\ninput a\noutput T(a)\noutput T(a * a + 1)\ntable T = {' '.join(map(str, entries))}")
            check(program)
            graph = build(program)
            for a in range(p):
                expected = [poly_value(entries, a, p), poly_value(entries, (a * a + 1) % p, p)]
                self.assertEqual(evaluate(program, [a]), expected)
                self.assertEqual(plain_meaning(program, [a]), expected)
                self.assertEqual(evaluate_graph(graph, [a]), expected)
                if a < many:
                    self.assertEqual(expected[0], entries[a])

    def test_in_loops(self):
        program = parse_with_tables("table T = 4 1 3\nfield 97\noutput sum i < 3: T(i) * (i + 1)\noutput each i < 3: T(T(i))")
        self.assertEqual(evaluate(program, []), [4 + 2 + 9, poly_value([4, 1, 3], 4, 97), 1, poly_value([4, 1, 3], 3, 97)])


if __name__ == "__main__":
    unittest.main()
