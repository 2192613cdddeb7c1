"""Answerers that claim any outputs and keep what they claimed alive (point 12)."""

from layerask.answering import Answerer
from layerask.circuits import copied, gates_of
from layerask.cubes import nearness, value_at
from layerask.field import inverse
from layerask.polys import corners, value
from layerask.wiring import weights

MOST_RAISES = 49


def hopeful(lack, guesses, degree, p):
    """The polynomial that is 0 at the guesses and whose values at 0 and 1 add up to the lack; None if there is none."""
    if len(guesses) > degree:
        return None
    values = []
    for t in range(degree + 1):
        product = 1
        for guess in guesses:
            product = product * (t - guess) % p
        values.append(product)
    if corners(values, p) == 0:
        return None
    factor = lack * inverse(corners(values, p), p) % p
    return [entry * factor % p for entry in values]


def is_lone_fit(start, told, claim, p):
    """Whether one value, at 0 and at 1, gives the claim."""
    of_x, of_y, of_both = told
    return (of_x * start + of_y * start + of_both * start * start - claim) % p == 0


def fitting_end(start, end, told, claim, p):
    """The value at 1 that gives the claim beside the value at 0; None if there is none."""
    of_x, of_y, of_both = told
    factor = (of_y + of_both * start) % p
    lack = (claim - of_x * start) % p
    if factor != 0:
        return lack * inverse(factor, p) % p
    return end if lack == 0 else None


def fitting_line(line, told, claim, p):
    """The line with values at 0 and 1 that give the claim, if some that are tried do (point 12.3)."""
    start = line[0]
    for raised in range(min(MOST_RAISES, p - 1) + 1):
        start = (line[0] + raised) % p
        if len(line) == 1:
            if is_lone_fit(start, told, claim, p):
                return [start]
        else:
            end = fitting_end(start, line[1], told, claim, p)
            if end is not None:
                return [start, end] + line[2:]
    return [start] + line[1:]


class Bluffer:
    """An answerer that claims a table of outputs and sends what fits the claim, near the honest answers."""

    def __init__(self, circuit, rows, claimed, choices):
        self._honest = Answerer(circuit, rows)
        self.circuit = copied(circuit)
        self.bits = self._honest.bits
        self.p = self._honest.p
        self.steps = 0
        self._claimed = list(claimed)
        self._choices = list(choices)
        self._chosen = 0
        self._claim = 0
        self._layer = 0
        self._point = []
        self._throws = []
        self._sent = [0]

    def outputs(self):
        """The claimed table of layer 0."""
        return list(self._claimed)

    def begin(self, layer, point):
        """Begins a layer, or begins it again, at a point."""
        if layer == 0:
            self._claim = value_at(self._claimed, point, self.p)
        self._layer = layer
        self._point = list(point)
        self._throws = []
        self._honest.begin(layer, point)
        self.steps = self._honest.steps

    def poly(self):
        """The values of the polynomial of this round."""
        self._sent = self._round_values(self._honest.poly())
        self.steps = self._honest.steps
        return list(self._sent)

    def throw(self, number):
        """Takes the throw of this round, or that of the line."""
        self._claim = value(self._sent, number, self.p)
        self._throws.append(number)
        self._honest.throw(number)
        self.steps = self._honest.steps

    def line(self):
        """The values on the line from x to y."""
        changed = self._with_choices(self._honest.line())
        self._sent = fitting_line(changed, self._told_weights(), self._claim, self.p)
        return list(self._sent)

    def _round_values(self, honest):
        """What is sent in a round in place of the honest values."""
        sent = self._with_choices(honest)
        sent[1] = (self._claim - sent[0]) % self.p
        return sent

    def _choice(self):
        """The next choice."""
        if self._chosen == len(self._choices):
            return 0
        self._chosen += 1
        return self._choices[self._chosen - 1] % self.p

    def _with_choices(self, honest):
        """The honest values, each with a choice added."""
        changed = []
        for entry in honest:
            changed.append((entry + self._choice()) % self.p)
        return changed

    def _told_weights(self):
        """The weights of x, of y and of both at the thrown points, times the nearness of the row."""
        middle = self.bits + (len(self._throws) - self.bits) // 2
        gates = gates_of(self.circuit, self._layer)
        column = self._point[self.bits:]
        near = nearness(self._point[:self.bits], self._throws[:self.bits], self.p)
        found = weights(gates, column, self._throws[self.bits:middle], self._throws[middle:], self.p)
        return [near * weight % self.p for weight in found]


class Guesser(Bluffer):
    """A bluffer that hopes for certain throws, its choices, behind which its claim is true.

    It is asked as any bluffer is; only what it sends in a round is its own.
    """

    def __init__(self, circuit, rows, claimed, choices):
        super().__init__(circuit, rows, claimed, choices)

    def outputs(self):
        """The claimed table of layer 0."""
        return super().outputs()

    def begin(self, layer, point):
        """Begins a layer, or begins it again, at a point."""
        super().begin(layer, point)

    def poly(self):
        """The values of the polynomial of this round."""
        return super().poly()

    def throw(self, number):
        """Takes the throw of this round, or that of the line."""
        super().throw(number)

    def line(self):
        """The values on the line from x to y."""
        return super().line()

    def _round_values(self, honest):
        """The honest values plus a difference that is 0 at the guesses, if there is one."""
        degree = len(honest) - 1
        guesses = [self._choice() for _ in range(degree)]
        lack = (self._claim - corners(honest, self.p)) % self.p
        difference = hopeful(lack, guesses, degree, self.p)
        if difference is None:
            difference = [0, lack] + [0] * (degree - 1)
        return [(entry + more) % self.p for entry, more in zip(honest, difference)]
