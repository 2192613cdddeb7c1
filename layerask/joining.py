"""Several claims about one table, joined into one claim (points 22.1 and 22.2)."""

from layerask.cubes import fold, nearness, point_table
from layerask.errors import TalkError
from layerask.field import are_numbers, is_number
from layerask.sums import SumAsker, honest

ROUND_DEGREE = 2


def mixed(numbers, mix, p):
    """The first number, the second one times the mix, the third one times its square, and so on, added up."""
    total = 0
    for number in reversed(numbers):
        total = (total * mix + number) % p
    return total


class Join:
    """The asker of several claims about one table."""

    def __init__(self, p, points, claims):
        self.next_point = None
        self.next_claim = None
        # The asker of the rounds; there is none as long as the mix has not been thrown.
        self.sums = None
        self._p = p
        self._points = [list(point) for point in points]
        self._claims = list(claims)
        self._mix = 0

    def wants(self):
        """What comes next: "throw", "polynomial", "value" or "nothing"."""
        if self.next_point is not None:
            return "nothing"
        if self.sums is None or self.sums.is_thrown():
            return "throw"
        return "value" if self.sums.is_done() else "polynomial"

    def throw(self, number):
        """Takes the mix, or the throw of a round."""
        if self.wants() != "throw" or not is_number(number, self._p):
            raise TalkError("throw")
        if self.sums is None:
            self._mix = number
            degrees = [ROUND_DEGREE] * len(self._points[0])
            self.sums = SumAsker(self._p, mixed(self._claims, number, self._p), degrees)
        else:
            self.sums.throw(number)

    def answer(self, values):
        """Takes the polynomial of a round; tells whether it fits."""
        if self.wants() != "polynomial":
            raise TalkError("polynomial")
        return self.sums.accept(values)

    def answer_value(self, number):
        """Takes the value at the thrown point; tells whether it fits."""
        if self.wants() != "value":
            raise TalkError("value")
        thrown = self.sums.throws
        if not are_numbers([number], 1, self._p) or self._near(thrown) * number % self._p != self.sums.claim:
            return False
        self.next_point = list(thrown)
        self.next_claim = number
        return True

    def _near(self, thrown):
        """The mixed nearness of the thrown point to the points."""
        return mixed([nearness(point, thrown, self._p) for point in self._points], self._mix, self._p)


class JoinAnswerer:
    """The honest answerer of the questions of a Join."""

    def __init__(self, p, table, points):
        self._p = p
        self._table = list(table)
        self._points = [list(point) for point in points]
        # The mixed nearness of all corners, which is there as soon as the mix is known.
        self._near = None

    def throw(self, number):
        """Takes the mix, or the throw of a round."""
        if self._near is None:
            self._near = self._mixed_tables(number)
            return
        self._table = fold(self._table, number, self._p)
        self._near = fold(self._near, number, self._p)

    def poly(self):
        """The values of the polynomial of this round."""
        return honest([[self._table, self._near]], ROUND_DEGREE, self._p)

    def value(self):
        """The value of the table at the thrown point."""
        return self._table[0]

    def _mixed_tables(self, mix):
        """The mixed nearness of all corners to the points."""
        found = [0] * len(self._table)
        for point in reversed(self._points):
            near = point_table(point, self._p)
            found = [(entry * mix + other) % self._p for entry, other in zip(found, near)]
        return found


def join_answers(answerer, throws):
    """The pair of the polynomials and the value, for the mix and the throws of all rounds."""
    answerer.throw(throws[0])
    polys = []
    for number in throws[1:]:
        polys.append(answerer.poly())
        answerer.throw(number)
    return polys, answerer.value()
