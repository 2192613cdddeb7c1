"""Turning a claim about a layer into one about the next layer (point 8)."""

from layerask.circuits import copied_layer, modulus, width
from layerask.cubes import between, nearness
from layerask.errors import TalkError
from layerask.field import are_numbers
from layerask.polys import value
from layerask.sums import SumAsker
from layerask.wiring import weights


class Turn:
    """The asker of a claim about a layer other than the last one."""

    def __init__(self, circuit, layer, dims, point, claim):
        self._p = modulus(circuit)
        self._wiring = copied_layer(circuit, layer)
        self._dims = dims
        self._bits = width(circuit, layer + 1)
        self._row = point[:dims]
        self._column = point[dims:]
        self._line = None
        self.sums = SumAsker(self._p, claim, [3] * dims + [2] * (2 * self._bits))
        self.next_point = None
        self.next_claim = None

    def accept_line(self, values):
        """Takes the polynomial on the line; tells whether it fits."""
        if not self.sums.is_done() or self._line is not None:
            raise TalkError("line")
        if not are_numbers(values, self._bits + 1, self._p) or self._told_sum(values) != self.sums.claim:
            return False
        self._line = list(values)
        return True

    def throw_line(self, number):
        """Takes the throw of the line, which makes the next claim."""
        if self._line is None or self.next_point is not None:
            raise TalkError("line throw")
        row, first, second = self._thrown()
        self.next_point = row + between(first, second, number, self._p)
        self.next_claim = value(self._line, number, self._p)

    def _thrown(self):
        """The thrown points of the row, of x and of y."""
        throws = self.sums.throws
        middle = self._dims + self._bits
        return throws[:self._dims], throws[self._dims:middle], throws[middle:]

    def _weights(self, g, x, y):
        """The weights of the layer at three points."""
        return weights(self._wiring, g, x, y, self._p)

    def _told_sum(self, values):
        """What the claim of the sum must be if the values on the line are right."""
        row, first, second = self._thrown()
        of_x, of_y, of_both = self._weights(self._column, first, second)
        start = values[0]
        # Without bits, x and y are the same point: the line is one value.
        end = values[1] if self._bits > 0 else start
        told = of_x * start + of_y * end + of_both * start * end
        return nearness(self._row, row, self._p) * told % self._p
