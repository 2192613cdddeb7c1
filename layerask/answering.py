"""The honest answerer (point 9)."""

from layerask.circuits import copied, depth, gates_of, modulus, row_bits, run, width
from layerask.cubes import between, fold, line_values, point_table

ROW_VALUES = 4
COLUMN_VALUES = 3


def rounds_of(circuit, bits, layer):
    """The number of the rounds of a layer."""
    return bits + 2 * width(circuit, layer + 1)


class Answerer:
    """An answerer that runs the circuit and answers honestly."""

    def __init__(self, circuit, rows):
        self._tables = self._run(circuit, rows)
        self.circuit = copied(circuit)
        self.bits = row_bits(rows)
        self.p = modulus(circuit)
        self.steps = 0
        self._gates = []
        self._near_gates = []
        self._near_rows = []
        self._table = []
        self._factors_of_row = []
        self._products_of_row = []
        self._values = []
        self._factors = []
        self._offsets = []
        self._width = 0
        self._throws = []

    def outputs(self):
        """The table of layer 0."""
        return list(self._tables[0])

    def begin(self, layer, point):
        """Begins a layer, or begins it again, at a point."""
        self._width = width(self.circuit, layer + 1)
        self._gates = self._gates_at(layer)
        self._near_rows = point_table(point[:self.bits], self.p)
        self._near_gates = point_table(point[self.bits:], self.p)
        self._table = list(self._tables[layer + 1])
        self._throws = []
        self._prepare_rows()
        self._enter_round()

    def poly(self):
        """The values of the polynomial of this round."""
        if len(self._throws) < self.bits:
            return [self._row_value(t) for t in range(ROW_VALUES)]
        return [self._column_value(t) for t in range(COLUMN_VALUES)]

    def throw(self, number):
        """Takes the throw of this round, or that of the line."""
        done = len(self._throws)
        if done == self.bits + 2 * self._width:
            # The throw of the line only tells where the next layer is begun.
            return
        if done < self.bits:
            self._near_rows = fold(self._near_rows, number, self.p)
            self._table = fold(self._table, number, self.p)
        else:
            self._values = fold(self._values, number, self.p)
            self._factors = fold(self._factors, number, self.p)
            self._offsets = fold(self._offsets, number, self.p)
        self._throws.append(number)
        self._enter_round()

    def line(self):
        """The values of the next layer on the line from x to y."""
        middle = self.bits + self._width
        return line_values(self._table, self._throws[self.bits:middle], self._throws[middle:], self.p)

    def _run(self, circuit, rows):
        """The tables of all layers."""
        return run(circuit, rows)

    def _gates_at(self, layer):
        """The gates of a layer."""
        return gates_of(self.circuit, layer)

    def _prepare_rows(self):
        """Writes the sum over all gates as one of factors times columns and of numbers times two columns."""
        self._factors_of_row = [0] * (1 << self._width)
        self._products_of_row = []
        for near, gate in zip(self._near_gates, self._gates):
            if gate[0] == "lin":
                _, a, x, b, y = gate
                self._factors_of_row[x] = (self._factors_of_row[x] + near * a) % self.p
                self._factors_of_row[y] = (self._factors_of_row[y] + near * b) % self.p
            else:
                _, c, x, y = gate
                self._products_of_row.append((near * c % self.p, x, y))

    def _enter_round(self):
        """Prepares the rounds of x or of y if they begin at this place."""
        if len(self._throws) == self.bits:
            self._enter_first()
        if len(self._throws) == self.bits + self._width:
            self._enter_second()

    def _enter_first(self):
        """Prepares the rounds of x: the sum is then one over x of factor times value plus offset."""
        table = self._table
        self._begin_columns()
        for near, gate in self._near_by_gate():
            if gate[0] == "lin":
                _, a, x, b, y = gate
                self._add_at(x, near * a, near * b * table[y])
            else:
                _, c, x, y = gate
                self._add_at(x, near * c * table[y], 0)

    def _enter_second(self):
        """Prepares the rounds of y in the same way, x being thrown."""
        at_first = self._values[0]
        near_first = point_table(self._throws[self.bits:], self.p)
        self._begin_columns()
        for near, gate in self._near_by_gate():
            if gate[0] == "lin":
                _, a, x, b, y = gate
                closeness = near * near_first[x]
                self._add_at(y, closeness * b, closeness * a * at_first)
            else:
                _, c, x, y = gate
                self._add_at(y, near * near_first[x] * c * at_first, 0)

    def _begin_columns(self):
        """Sets the values of the columns, and factors and offsets that are still 0."""
        self.steps += len(self._gates)
        self._values = self._table
        self._factors = [0] * len(self._table)
        self._offsets = [0] * len(self._table)

    def _near_by_gate(self):
        """The gates, each with the nearness of its column and of the thrown row."""
        near_row = self._near_rows[0]
        return [(near_row * near % self.p, gate) for near, gate in zip(self._near_gates, self._gates)]

    def _add_at(self, column, factor, offset):
        """Adds to the factor and the offset of a column."""
        self._factors[column] = (self._factors[column] + factor) % self.p
        self._offsets[column] = (self._offsets[column] + offset) % self.p

    def _row_value(self, t):
        """The value of the sum for the number t in the place of the next variable of the row."""
        near_rows = fold(self._near_rows, t, self.p)
        table = fold(self._table, t, self.p)
        many = len(near_rows)
        self.steps += many * (len(self._factors_of_row) + len(self._gates))
        result = 0
        for row, near in enumerate(near_rows):
            result += near * self._row_sum(table[row::many])
        return result % self.p

    def _row_sum(self, columns):
        """The sum over all gates for the columns of a row."""
        linear = sum([factor * entry for factor, entry in zip(self._factors_of_row, columns)])
        products = sum([number * columns[x] * columns[y] for number, x, y in self._products_of_row])
        return (linear + products) % self.p

    def _column_value(self, t):
        """The value of the sum for the number t in the place of the next variable of x or y."""
        values = fold(self._values, t, self.p)
        factors = fold(self._factors, t, self.p)
        self.steps += len(values)
        products = sum(factor * entry for factor, entry in zip(factors, values))
        return (products + sum(fold(self._offsets, t, self.p))) % self.p


def answers(answerer, throws):
    """The answers of an answerer in a conversation with these throws."""
    at = answerer.bits + width(answerer.circuit, 0)
    told, _ = answers_from(answerer, throws[:at], throws[at:])
    return told


def answers_from(answerer, point, throws):
    """The answers from a point of layer 0 on, with the throws behind it, and the point of the last layer."""
    circuit = answerer.circuit
    told = []
    at = 0
    for layer in range(depth(circuit)):
        rounds = rounds_of(circuit, answerer.bits, layer)
        of_layer = throws[at:at + rounds + 1]
        told.append(answers_of_layer(answerer, layer, point, of_layer))
        point = next_point(of_layer, answerer.bits, width(circuit, layer + 1), answerer.p)
        at += rounds + 1
    return told, point


def answers_of_layer(answerer, layer, point, throws):
    """The pair of the polynomials and the line of a layer; the last throw is that of the line."""
    answerer.begin(layer, point)
    polys = []
    for number in throws[:-1]:
        polys.append(answerer.poly())
        answerer.throw(number)
    line = answerer.line()
    answerer.throw(throws[-1])
    return polys, line


def next_point(throws, bits, columns, p):
    """The point at which the next layer is begun, from the throws of a layer."""
    middle = bits + columns
    return throws[:bits] + between(throws[bits:middle], throws[middle:-1], throws[-1], p)


def honest_talk(circuit, rows, throws):
    """The pair of the true table of layer 0 and the honest answers."""
    answerer = Answerer(circuit, rows)
    return answerer.outputs(), answers(answerer, throws)
