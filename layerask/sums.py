"""Sums over the corners of a cube, asked one variable at a time (point 5)."""

from layerask.cubes import fold
from layerask.errors import TalkError
from layerask.field import are_numbers
from layerask.polys import corners, value


class SumAsker:
    """The asker of a claim about a sum."""

    def __init__(self, p, claim, degrees):
        self.claim = claim
        self.throws = []
        self._p = p
        self._degrees = list(degrees)
        self._sent = None

    def is_done(self):
        """Whether all rounds are over."""
        return len(self.throws) == len(self._degrees)

    def is_thrown(self):
        """Whether a throw comes next."""
        return self._sent is not None

    def accept(self, values):
        """Takes the polynomial of a round; tells whether it fits."""
        if self.is_done() or self._sent is not None:
            raise TalkError("polynomial")
        many = self._degrees[len(self.throws)] + 1
        if not are_numbers(values, many, self._p) or corners(values, self._p) != self.claim:
            return False
        self._sent = list(values)
        return True

    def throw(self, number):
        """Takes the throw of a round."""
        if self._sent is None:
            raise TalkError("throw")
        self.claim = value(self._sent, number, self._p)
        # A new list, so that one that was read before stays as it was.
        self.throws = self.throws + [number]
        self._sent = None


def products(tables, p):
    """The products of the entries of tables, corner by corner."""
    found = list(tables[0])
    for table in tables[1:]:
        found = [entry * other % p for entry, other in zip(found, table)]
    return found


def total(terms, p):
    """The sum over all corners of the sum of the terms."""
    return sum(sum(products(tables, p)) for tables in terms) % p


def fold_terms(terms, number, p):
    """The terms in which the first variable is the number."""
    return [[fold(table, number, p) for table in tables] for tables in terms]


def honest(terms, degree, p):
    """The honest polynomial in the first variable, by its values at 0 to degree."""
    return [total(fold_terms(terms, t, p), p) for t in range(degree + 1)]


def honest_rounds(terms, degree, throws, p):
    """The honest polynomials of rounds with these throws, and the terms behind them."""
    polys = []
    left = terms
    for number in throws:
        polys.append(honest(left, degree, p))
        left = fold_terms(left, number, p)
    return polys, left
