"""Circuits whose layers are told by rules (point 25)."""

from layerask.answering import Answerer, answers
from layerask.asking import BELIEVED, Questions, check_answers, check_outputs, check_talk_modulus, play
from layerask.blame import place_of
from layerask.circuits import MOST_LAYERS, copied, depth, layer_tables, modulus, row_bits, rows_table, width
from layerask.counts import many_throws, plan
from layerask.errors import CircuitError, SizeError
from layerask.field import are_numbers, check_modulus, is_integer_kind
from layerask.tapes import check_dice
from layerask.turns import Turn

MOST_COLUMN_BITS = 12
MOST_TABLE_BITS = 16
GREATEST_WIDTH = 1000000

ADD = ("lin", 1, 1)
TIMES = ("mul", 1)


def rule_growth(rule):
    """How many bits more the next layer has."""
    return 1 if rule[0] == "pairs" or rule[0] == "halves" else 0


def regular(p, bits, rules):
    """The regular circuit with 2^bits outputs and these rules."""
    widths = [bits]
    for rule in rules:
        widths.append(widths[-1] + rule_growth(rule))
    return ("regular", p, widths, list(rules))


def is_operation(thing, p):
    """Whether a thing of any kind is an operation."""
    if not isinstance(thing, tuple):
        return False
    if len(thing) == 3 and thing[0] == "lin":
        return are_numbers(list(thing[1:]), 2, p)
    return len(thing) == 2 and thing[0] == "mul" and are_numbers(list(thing[1:]), 1, p)


def is_cross(thing, bits, p):
    """Whether a tuple is a cross of a layer with 2^bits columns."""
    if len(thing) != 4 or thing[0] != "cross":
        return False
    _, k, low, high = thing
    if not are_numbers([k], 1, bits) or not is_operation(low, p) or not is_operation(high, p):
        return False
    return low[0] == high[0]


def is_rule(thing, bits, p):
    """Whether a thing of any kind is a rule of a layer with 2^bits columns."""
    if not isinstance(thing, tuple):
        return False
    if len(thing) == 2 and (thing[0] == "pairs" or thing[0] == "halves" or thing[0] == "same"):
        return is_operation(thing[1], p)
    return is_cross(thing, bits, p)


def has_form(circuit):
    """Whether a thing of any kind looks like a regular circuit from afar."""
    if not isinstance(circuit, tuple) or len(circuit) != 4 or circuit[0] != "regular":
        return False
    _, p, widths, rules = circuit
    if not is_integer_kind(p) or not isinstance(widths, list) or not isinstance(rules, list):
        return False
    if len(rules) == 0:
        return False
    return are_numbers(widths, len(rules) + 1, GREATEST_WIDTH + 1)


def checked_regular(circuit):
    """The circuit itself; raises the errors of point 25.2."""
    if not has_form(circuit):
        raise CircuitError("regular")
    _, p, widths, rules = circuit
    check_modulus(p)
    if len(rules) > MOST_LAYERS:
        raise SizeError("layers")
    if max(widths) > MOST_COLUMN_BITS:
        raise SizeError("columns")
    for at, rule in enumerate(rules):
        if not is_rule(rule, widths[at], p) or widths[at + 1] != widths[at] + rule_growth(rule):
            raise CircuitError("rule")
    return circuit


def check_regular_rows(circuit, rows):
    """Raises the errors of point 25.3."""
    if not isinstance(rows, list) or len(rows) == 0 or len(rows) & (len(rows) - 1) != 0:
        raise CircuitError("rows")
    if row_bits(rows) + max(circuit[2]) > MOST_TABLE_BITS:
        raise SizeError("rows")
    for row in rows:
        if not are_numbers(row, 1 << width(circuit, depth(circuit)), modulus(circuit)):
            raise CircuitError("rows")


def read_columns(rule, bits, column):
    """The two columns that a column reads."""
    if rule[0] == "pairs":
        return 2 * column, 2 * column + 1
    if rule[0] == "halves":
        return column, column + (1 << bits)
    if rule[0] == "same":
        return column, column
    return column, column ^ (1 << rule[1])


def operation_of(rule, column):
    """The operation of a column."""
    if rule[0] == "cross":
        return rule[2 + ((column >> rule[1]) & 1)]
    return rule[1]


def rule_gate(rule, bits, column):
    """The gate of a column."""
    x, y = read_columns(rule, bits, column)
    operation = operation_of(rule, column)
    if operation[0] == "lin":
        _, a, b = operation
        return ("lin", a, x, b, y)
    return ("mul", operation[1], x, y)


def rule_gates(circuit, layer):
    """The gates of a layer."""
    rule = circuit[3][layer]
    bits = width(circuit, layer)
    return [rule_gate(rule, bits, column) for column in range(1 << bits)]


def explicit(circuit):
    """The explicit circuit of a regular one."""
    _, p, widths, rules = circuit
    return ("circuit", p, list(widths), [rule_gates(circuit, layer) for layer in range(len(rules))])


def three(a, b, c):
    """How near three numbers are to the same bit."""
    return a * b * c + (1 - a) * (1 - b) * (1 - c)


def all_three(g, x, y, p):
    """The product of `three` over all bits."""
    found = 1
    for here, first, second in zip(g, x, y):
        found = found * three(here, first, second) % p
    return found


def without(point, k):
    """A point without the number of a bit."""
    return point[:k] + point[k + 1:]


def closenesses(rule, g, x, y, p):
    """The operations of a rule, each with the closeness of its columns."""
    if rule[0] == "same":
        return [(rule[1], all_three(g, x, y, p))]
    if rule[0] == "pairs":
        return [(rule[1], (1 - x[0]) * y[0] * all_three(g, x[1:], y[1:], p) % p)]
    if rule[0] == "halves":
        return [(rule[1], (1 - x[-1]) * y[-1] * all_three(g, x[:-1], y[:-1], p) % p)]
    _, k, low, high = rule
    others = all_three(without(g, k), without(x, k), without(y, k), p)
    return [(low, (1 - g[k]) * (1 - x[k]) * y[k] * others % p), (high, g[k] * x[k] * (1 - y[k]) * others % p)]


def regular_weights(rule, g, x, y, p):
    """The weights of x, of y and of both at three points, by their bits."""
    of_x = 0
    of_y = 0
    of_both = 0
    for operation, closeness in closenesses(rule, g, x, y, p):
        if operation[0] == "lin":
            _, a, b = operation
            of_x = (of_x + a * closeness) % p
            of_y = (of_y + b * closeness) % p
        else:
            of_both = (of_both + operation[1] * closeness) % p
    return of_x, of_y, of_both


def run_regular(circuit, rows):
    """The tables of the layers 0 to L."""
    checked_regular(circuit)
    check_regular_rows(circuit, rows)
    return layer_tables(explicit(circuit), rows)


class RegularAnswerer(Answerer):
    """An honest answerer for a regular circuit; it answers as one for the explicit circuit does."""

    def __init__(self, circuit, rows):
        super().__init__(circuit, rows)

    def outputs(self):
        """The table of layer 0."""
        return super().outputs()

    def begin(self, layer, point):
        """Begins a layer, or begins it again, at a point."""
        super().begin(layer, point)

    def poly(self):
        """The values of the polynomial of this round."""
        return super().poly()

    def throw(self, number):
        """Takes the throw of this round, or that of the line."""
        super().throw(number)

    def line(self):
        """The values of the next layer on the line from x to y."""
        return super().line()

    def _run(self, circuit, rows):
        """The tables of all layers."""
        return run_regular(circuit, rows)

    def _gates_at(self, layer):
        """The gates of a layer."""
        return rule_gates(self.circuit, layer)


def regular_answers(circuit, rows, throws):
    """The honest answers."""
    return answers(RegularAnswerer(circuit, rows), throws)


class RegularTurn(Turn):
    """A turn that calculates the weights by the bits of the columns."""

    def _weights(self, g, x, y):
        """The weights of the layer at three points."""
        return regular_weights(self._wiring, g, x, y, self._p)


class RegularQuestions(Questions):
    """The asker of a conversation about a regular circuit."""

    def _new_turn(self, point, claim):
        """The asker of a claim about the present layer."""
        return RegularTurn(self._circuit, self._at, self._dims, point, claim)

    def _weighing(self):
        """What is counted for the weights of the present layer."""
        return width(self._circuit, self._at) + 1


def regular_work(circuit, bits):
    """The asker's work in a conversation that is believed."""
    last = depth(circuit)
    looked_at = (1 << (bits + width(circuit, 0))) + (1 << (bits + width(circuit, last)))
    answered = sum([degree + 1 for degree in plan(circuit, bits)])
    return looked_at + answered + sum([width(circuit, layer) + 1 for layer in range(last)])


def judge_regular(circuit, rows, outputs, throws, told):
    """The result of a whole conversation about a regular circuit."""
    checked_regular(circuit)
    check_talk_modulus(circuit)
    check_regular_rows(circuit, rows)
    check_outputs(circuit, rows, outputs)
    bits = row_bits(rows)
    check_dice(throws, many_throws(circuit, bits), modulus(circuit))
    check_answers(circuit, bits, told)
    return play(RegularQuestions(copied(circuit), bits, rows_table(rows), rows_table(outputs)), throws, told)


def blame_regular(circuit, rows, outputs, throws, told):
    """The blame, or None if the claimed outputs are right or not believed."""
    if judge_regular(circuit, rows, outputs, throws, told) != BELIEVED:
        return None
    answerer = RegularAnswerer(circuit, rows)
    honest = answers(answerer, throws)
    return place_of(rows_table(outputs), answerer.outputs(), told, honest, throws, modulus(circuit))


def sum_circuit(p, bits):
    """The circuit of the sum of 2^bits numbers."""
    return regular(p, 0, [("pairs", ADD)] * bits)


def product_circuit(p, bits):
    """The circuit of the product of 2^bits numbers."""
    return regular(p, 0, [("pairs", TIMES)] * bits)


def inner_circuit(p, bits):
    """The circuit of the inner product of two rows of 2^bits numbers, one behind the other."""
    return regular(p, 0, [("pairs", ADD)] * bits + [("halves", TIMES)])


def transform_circuit(p, bits):
    """The circuit of the Walsh-Hadamard transform of 2^bits numbers."""
    return regular(p, bits, [("cross", k, ADD, ("lin", p - 1, 1)) for k in range(bits)])
