"""Points 8.1 to 8.4: a claim about a layer becomes one about the next layer."""

import unittest
from itertools import product

from layerask.errors import TalkError
from layerask.turns import Turn
from plain import (GREATEST, Numbers, kept, plain_line, plain_poly, point_between, poly_value, raised, run_by_rows,
                   sample_circuit, sample_rows, summand, table_value, unshared)

SHAPES = ((0, [0, 0]), (1, [0, 0]), (2, [2, 0]), (0, [1, 1]), (1, [2, 1]), (2, [0, 1]), (1, [0, 2]), (0, [1, 2, 1]))


class Case:
    """A turn with all that is needed to answer it."""

    def __init__(self, p, dims, widths, seed, layer=0):
        numbers = Numbers(seed)
        self.p, self.dims, self.layer = p, dims, layer
        self.circuit = sample_circuit(p, widths, seed)
        self.rows = sample_rows(self.circuit, dims, seed)
        tables = run_by_rows(self.circuit, self.rows)
        self.table = tables[layer + 1]
        self.point = numbers.many(dims + widths[layer], p)
        self.right = table_value(tables[layer], self.point, p)
        self.bits = widths[layer + 1]
        self.thrown = numbers.many(dims + 2 * self.bits, p)
        self.last = numbers.below(p)

    def turn(self, more=0):
        return Turn(self.circuit, self.layer, self.dims, self.point, (self.right + more) % self.p)

    def poly(self, at):
        return plain_poly(self.circuit, self.table, self.layer, self.dims, self.point, self.thrown[:at])

    def line(self):
        return plain_line(self.circuit, self.table, self.layer, self.dims, self.thrown)

    def after_rounds(self):
        turn = self.turn()
        for at, number in enumerate(self.thrown):
            turn.sums.accept(self.poly(at))
            turn.sums.throw(number)
        return turn


def cases():
    for p in (5, 97, GREATEST):
        for seed, (dims, widths) in enumerate(SHAPES):
            for layer in range(len(widths) - 1):
                yield Case(p, dims, widths, seed, layer)


class TurnTest(unittest.TestCase):
    def test_the_sum_is_the_value(self):
        for case in cases():
            variables = case.dims + 2 * case.bits
            total = 0
            for corner in product((0, 1), repeat=variables):
                total += summand(case.circuit, case.table, case.layer, case.dims, case.point, list(corner))
            self.assertEqual(total % case.p, case.right)

    def test_honest_turns(self):
        for case in cases():
            turn = case.turn()
            self.assertEqual((turn.next_point, turn.next_claim, turn.sums.claim), (None, None, case.right))
            for at, number in enumerate(case.thrown):
                poly = case.poly(at)
                self.assertEqual(len(poly), 4 if at < case.dims else 3)
                self.assertIs(turn.sums.is_done(), False)
                self.assertIs(turn.sums.accept(poly), True)
                turn.sums.throw(number)
            self.assertIs(turn.sums.is_done(), True)
            self.assertEqual(turn.sums.throws, case.thrown)
            self.assertIs(kept(self, turn.accept_line, case.line()), True)
            self.assertEqual((turn.next_point, turn.next_claim), (None, None))
            self.assertIsNone(turn.throw_line(case.last))
            x, y = case.thrown[case.dims:case.dims + case.bits], case.thrown[case.dims + case.bits:]
            expected = case.thrown[:case.dims] + point_between(x, y, case.last, case.p)
            self.assertEqual(turn.next_point, expected)
            self.assertEqual(turn.next_claim, table_value(case.table, expected, case.p))

    def test_degrees(self):
        for case in cases():
            turn = case.turn()
            for at, number in enumerate(case.thrown):
                poly = case.poly(at)
                self.assertIs(turn.sums.accept(poly + [poly_value(poly, len(poly), case.p)]), False)
                self.assertIs(turn.sums.accept(poly[:-1]), False)
                turn.sums.accept(poly)
                turn.sums.throw(number)

    def test_lines_that_do_not_fit(self):
        for case in cases():
            turn = case.after_rounds()
            line, p = case.line(), case.p
            wrong = [line + [0], line[:-1], [], [p] + line[1:], [-1] + line[1:], line[:-1] + [line[-1] + p]]
            for values in wrong:
                self.assertIs(kept(self, turn.accept_line, values), False, values)
                self.assertEqual((turn.next_point, turn.next_claim), (None, None))
                raised(self, TalkError, "step", "line throw", turn.throw_line, 0)
            self.assertIs(turn.accept_line(line), True)

    def test_which_lines_fit(self):
        p = 5
        for dims, widths in ((0, [0, 0]), (1, [1, 0]), (0, [1, 1]), (1, [2, 1])):
            for seed in range(6):
                case = Case(p, dims, widths, seed)
                claim = summand(case.circuit, case.table, 0, dims, case.point, case.thrown)
                variables = case.thrown
                for values in product(range(p), repeat=case.bits + 1):
                    turn = case.after_rounds()
                    expected = self.told(case, variables, values[0], values[-1]) == claim
                    self.assertIs(turn.accept_line(list(values)), expected)

    def told(self, case, variables, first, second):
        """Point 8.3, from a table in which only the two values count."""
        from plain import plain_weights

        dims, bits = case.dims, case.bits
        x, y = variables[dims:dims + bits], variables[dims + bits:]
        a, b, c = plain_weights(case.circuit, 0, case.point[dims:], x, y)
        together = 1
        for here, there in zip(case.point[:dims], variables[:dims]):
            together *= here * there + (1 - here) * (1 - there)
        return together * (a * first + b * second + c * first * second) % case.p

    def test_only_the_ends_of_a_line_are_compared(self):
        case = Case(97, 1, [1, 3], 7)
        line = case.line()
        turn = case.after_rounds()
        changed = line[:2] + [(line[2] + 1) % 97] + line[3:]
        self.assertIs(turn.accept_line(changed), True)
        turn.throw_line(50)
        self.assertEqual(turn.next_claim, poly_value(changed, 50, 97))

    def test_wrong_places(self):
        for case in cases():
            turn = case.turn()
            line = case.line()
            for at, number in enumerate(case.thrown):
                raised(self, TalkError, "step", "line", turn.accept_line, line)
                raised(self, TalkError, "step", "line throw", turn.throw_line, 0)
                turn.sums.accept(case.poly(at))
                raised(self, TalkError, "step", "line", turn.accept_line, line)
                turn.sums.throw(number)
            raised(self, TalkError, "step", "line throw", turn.throw_line, 0)
            self.assertIs(turn.accept_line(line), True)
            raised(self, TalkError, "step", "line", turn.accept_line, line)
            raised(self, TalkError, "step", "line", turn.accept_line, [])
            self.assertEqual((turn.next_point, turn.next_claim), (None, None))
            turn.throw_line(case.last)
            after = (list(turn.next_point), turn.next_claim)
            raised(self, TalkError, "step", "line throw", turn.throw_line, (case.last + 1) % case.p)
            raised(self, TalkError, "step", "line", turn.accept_line, line)
            self.assertEqual((turn.next_point, turn.next_claim), after)

    def test_false_claims_do_not_fit_the_honest_polynomial(self):
        for case in cases():
            turn = case.turn(1)
            if case.thrown:
                self.assertIs(turn.sums.accept(case.poly(0)), False)
            else:
                self.assertIs(turn.accept_line(case.line()), False)

    def test_nothing_is_shared(self):
        case = Case(97, 1, [1, 1], 3)
        turn, line = case.after_rounds(), case.line()
        kept_line = list(line)
        turn.accept_line(line)
        line[0] = (line[0] + 1) % 97
        case.point[0] = (case.point[0] + 1) % 97
        turn.throw_line(case.last)
        self.assertEqual(turn.next_claim, poly_value(kept_line, case.last, 97))
        unshared(self, turn.next_point, [case.point, case.circuit, turn.sums.throws])

    def test_arguments_stay(self):
        case = Case(97, 1, [1, 2], 3)
        again = Case(97, 1, [1, 2], 3)
        turn = case.after_rounds()
        turn.accept_line(case.line())
        turn.throw_line(4)
        self.assertEqual((case.circuit, case.point), (again.circuit, again.point))

    def test_later_changes_of_the_arguments_do_not_count(self):
        case = Case(97, 1, [1, 1], 3)
        polys, line = [case.poly(at) for at in range(3)], case.line()
        turn = case.turn()
        case.point[0] = (case.point[0] + 1) % 97
        case.point[1] = (case.point[1] + 1) % 97
        case.circuit[3][0][0] = ("mul", 3, 0, 0)
        for poly, number in zip(polys, case.thrown):
            self.assertIs(turn.sums.accept(poly), True)
            turn.sums.throw(number)
        self.assertIs(turn.accept_line(line), True)


if __name__ == "__main__":
    unittest.main()
