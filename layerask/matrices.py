"""Products of matrices (points 26.1 to 26.5)."""

from layerask.asking import BELIEVED
from layerask.cubes import value_at, with_first, with_last
from layerask.errors import CircuitError, SizeError, TalkError
from layerask.field import are_numbers, check_modulus
from layerask.sums import SumAsker, fold_terms, honest
from layerask.tapes import Tape, asked_rounds, check_dice, first_agreement, has_parts, has_polys

MOST_DIMENSIONS = 12
ROUND_DEGREE = 2


def multiply(left, right, sizes, p):
    """The table of the product of two matrices."""
    a, b, c = sizes
    rows = [left[i::1 << a] for i in range(1 << a)]
    columns = [right[j << b:(j + 1) << b] for j in range(1 << c)]
    return [sum([x * y for x, y in zip(row, column)]) % p for column in columns for row in rows]


def transpose(table, a, b):
    """The matrix with rows and columns exchanged, of one with a row bits and b column bits."""
    return [table[i + (j << a)] for i in range(1 << a) for j in range(1 << b)]


def check_even_modulus(p):
    """Raises FieldError if an integer is no modulus, and CircuitError if it is 2."""
    check_modulus(p)
    if p == 2:
        raise CircuitError("modulus")


def check_sizes(sizes, p):
    """Raises the errors of a modulus and of sizes that are not allowed."""
    check_even_modulus(p)
    a, b, c = sizes
    if max(a + b, b + c, a + c) > MOST_DIMENSIONS:
        raise SizeError("matrix")


def check_matrix(table, bits, p):
    """Raises CircuitError if a thing of any kind is no table of numbers with so many dimensions."""
    if not are_numbers(table, 1 << bits, p):
        raise CircuitError("matrix")


def multiplied(values, p):
    """The product of numbers."""
    found = 1
    for number in values:
        found = found * number % p
    return found


class ProductTurn:
    """The asker of the claim that a product has a value at a point."""

    def __init__(self, p, sizes, point, claim):
        a, b, _ = sizes
        self._p = p
        self._row = point[:a]
        self._column = point[a:]
        self.sums = SumAsker(p, claim, [ROUND_DEGREE] * b)
        self.points = None
        self.claims = None

    def accept_pair(self, values):
        """Takes the values of the left and the right matrix; tells whether they fit."""
        if not self.sums.is_done() or self.points is not None:
            raise TalkError("pair")
        if not are_numbers(values, 2, self._p) or multiplied(values, self._p) != self.sums.claim:
            return False
        thrown = self.sums.throws
        self.points = [self._row + thrown, thrown + self._column]
        self.claims = list(values)
        return True


class ProductAnswerer:
    """The honest answerer of the questions of a ProductTurn."""

    def __init__(self, p, left, right, sizes, point):
        rows, _, _ = sizes
        self._p = p
        self._left = with_first(left, point[:rows], p)
        self._right = with_last(right, point[rows:], p)

    def poly(self):
        """The values of the polynomial of this round."""
        return honest([[self._left, self._right]], ROUND_DEGREE, self._p)

    def throw(self, number):
        """Takes the throw of this round."""
        self._left, self._right = fold_terms([[self._left, self._right]], number, self._p)[0]

    def pair(self):
        """The values of the left and the right matrix."""
        return [self._left[0], self._right[0]]


def product_answers(answerer, throws):
    """The pair of the polynomials and the two values, for the throws of all rounds."""
    polys = []
    for number in throws:
        polys.append(answerer.poly())
        answerer.throw(number)
    return polys, answerer.pair()


def product_throws(sizes):
    """The number of the throws of a conversation about a claimed table."""
    return sum(sizes)


def product_share(sizes):
    """The told share times p."""
    a, b, c = sizes
    return a + c + ROUND_DEGREE * b


def product_work(sizes):
    """The asker's work in a conversation that is believed."""
    a, b, c = sizes
    return (1 << (a + b)) + (1 << (b + c)) + (1 << (a + c)) + (ROUND_DEGREE + 1) * b + 2


def asked_pair(tape, turn, place):
    """Asks the rounds and the pair of a product; tells whether every answer fits."""
    if not asked_rounds(tape, turn.sums, place, ("round",) + place):
        return False
    if not turn.accept_pair(tape.next_answer()):
        tape.refuse(place + ("pair",))
        return False
    return True


def check_product(left, right, claimed, sizes, throws, told, p):
    """Raises the errors of a conversation about a product."""
    check_sizes(sizes, p)
    a, b, c = sizes
    check_matrix(left, a + b, p)
    check_matrix(right, b + c, p)
    check_matrix(claimed, a + c, p)
    check_dice(throws, product_throws(sizes), p)
    if not has_parts(told, 2) or not has_polys(told[0], b):
        raise TalkError("answers")


def asked_product(left, right, claimed, sizes, throws, told, p):
    """The tape of a whole conversation that is not checked."""
    a, _, c = sizes
    polys, pair = told
    tape = Tape(p, throws, polys + [pair])
    point = tape.next_throws(a + c)
    claim = value_at(claimed, point, p)
    tape.note(("claim",), claimed, claim)
    turn = ProductTurn(p, sizes, point, claim)
    if asked_pair(tape, turn, ()):
        tape.compare(turn.claims[0], value_at(left, turn.points[0], p), ("left",))
        tape.compare(turn.claims[1], value_at(right, turn.points[1], p), ("right",))
        tape.believe()
    return tape


def judge_product(left, right, claimed, sizes, throws, told, p):
    """The result of a whole conversation about a product."""
    check_product(left, right, claimed, sizes, throws, told, p)
    return asked_product(left, right, claimed, sizes, throws, told, p).result


def blame_product(left, right, claimed, sizes, throws, told, p):
    """The blame, or None if the claimed table is right or not believed."""
    check_product(left, right, claimed, sizes, throws, told, p)
    tape = asked_product(left, right, claimed, sizes, throws, told, p)
    true = multiply(left, right, sizes, p)
    if tape.result != BELIEVED or claimed == true:
        return None
    a, _, c = sizes
    answerer = ProductAnswerer(p, left, right, sizes, throws[:a + c])
    right_told = product_answers(answerer, throws[a + c:])
    return first_agreement(tape.trace, asked_product(left, right, true, sizes, throws, right_told, p).trace)
