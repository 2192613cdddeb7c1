"""Plain calculations to compare the program with, and things that several tests need.

Everything here follows the definitions word by word and is slow. Only `bluff`
uses the program itself, for the honest answers that it changes.
"""

from copy import deepcopy
from itertools import product

GREATEST = 2147483647


class Numbers:
    """A row of numbers that looks thrown and is always the same."""

    def __init__(self, seed):
        self.state = seed * 2654435761 % 2 ** 32 + 1

    def below(self, limit):
        self.state = (self.state * 6364136223846793005 + 1442695040888963407) % 2 ** 64
        return (self.state >> 24) % limit

    def many(self, count, limit):
        return [self.below(limit) for _ in range(count)]


def lists_in(thing):
    """The lists in a thing, at any depth."""
    if isinstance(thing, (list, tuple)):
        found = [thing] if isinstance(thing, list) else []
        for entry in thing:
            found += lists_in(entry)
        return found
    return []


def kept(test, function, *arguments):
    """Calls a function; its arguments must stay as they were, and its result must share no list with them."""
    before = deepcopy(arguments)
    result = function(*arguments)
    test.assertEqual(arguments, before)
    unshared(test, result, arguments)
    return result


def unshared(test, thing, other):
    """Two things must share no list."""
    known = {id(entry) for entry in lists_in(other)}
    test.assertFalse([entry for entry in lists_in(thing) if id(entry) in known])


def raised(test, kind, field, word, function, *arguments):
    """A call must raise an error of this class, with this word in this field."""
    with test.assertRaises(kind) as caught:
        function(*arguments)
    test.assertIs(type(caught.exception), kind)
    test.assertEqual(getattr(caught.exception, field), word)


def corner(index, dims):
    return [index // 2 ** j % 2 for j in range(dims)]


def near(point, other, p):
    result = 1
    for here, bit in zip(point, other):
        result = result * (here if bit == 1 else 1 - here) % p
    return result


def table_value(table, point, p):
    """Point 4.1, corner by corner."""
    dims = len(point)
    return sum(table[k] * near(point, corner(k, dims), p) for k in range(2 ** dims)) % p


def poly_value(values, t, p):
    """Lagrange's formula, with Python's own inverse."""
    result = 0
    for k, entry in enumerate(values):
        for j in range(len(values)):
            if j != k:
                entry = entry * (t - j) * pow(k - j, -1, p) % p
        result += entry
    return result % p


def point_between(point, other, t, p):
    return [(a + t * (b - a)) % p for a, b in zip(point, other)]


def sample_gate(numbers, p, columns):
    kind = numbers.below(7)
    x, y = numbers.many(2, columns)
    if kind == 0:
        return ("lin", 0, 0, 0, 0)
    if kind < 4:
        return ("lin", numbers.below(p), x, numbers.below(p), y)
    return ("mul", numbers.below(p), x, y)


def sample_circuit(p, widths, seed):
    numbers = Numbers(seed)
    layers = []
    for this, following in zip(widths, widths[1:]):
        layers.append([sample_gate(numbers, p, 2 ** following) for _ in range(2 ** this)])
    return ("circuit", p, list(widths), layers)


def sample_rows(circuit, dims, seed):
    numbers = Numbers(seed)
    return [numbers.many(2 ** circuit[2][-1], circuit[1]) for _ in range(2 ** dims)]


def run_by_rows(circuit, rows):
    """The tables of all layers, row by row and gate by gate."""
    _, p, widths, layers = circuit
    tables = [[None] * (len(rows) * 2 ** bits) for bits in widths]
    for r, row in enumerate(rows):
        columns = list(row)
        for i in range(len(layers), -1, -1):
            if i < len(layers):
                columns = [gate_value(gate, columns, p) for gate in layers[i]]
            for g, entry in enumerate(columns):
                tables[i][r + len(rows) * g] = entry
    return tables


def gate_value(gate, columns, p):
    if gate[0] == "lin":
        return (gate[1] * columns[gate[2]] + gate[3] * columns[gate[4]]) % p
    return gate[1] * columns[gate[2]] * columns[gate[3]] % p


def true_outputs(circuit, rows):
    table = run_by_rows(circuit, rows)[0]
    return [table[r::len(rows)] for r in range(len(rows))]


def plain_weights(circuit, layer, g, x, y):
    """Point 7.1, gate by gate."""
    _, p, widths, layers = circuit
    found = [0, 0, 0]
    for at, gate in enumerate(layers[layer]):
        first, second = (gate[2], gate[4]) if gate[0] == "lin" else (gate[2], gate[3])
        closeness = near(g, corner(at, widths[layer]), p)
        closeness *= near(x, corner(first, widths[layer + 1]), p)
        closeness *= near(y, corner(second, widths[layer + 1]), p)
        if gate[0] == "lin":
            found[0] += gate[1] * closeness
            found[1] += gate[3] * closeness
        else:
            found[2] += gate[1] * closeness
    return tuple(entry % p for entry in found)


def summand(circuit, table, layer, dims, point, variables):
    """The term of point 8.1 at any point (r, x, y)."""
    p, bits = circuit[1], circuit[2][layer + 1]
    r, x, y = variables[:dims], variables[dims:dims + bits], variables[dims + bits:]
    a, b, m = plain_weights(circuit, layer, point[dims:], x, y)
    v = table_value(table, r + x, p)
    w = table_value(table, r + y, p)
    together = 1
    for here, there in zip(point[:dims], r):
        together *= here * there + (1 - here) * (1 - there)
    return together * (a * v + b * w + m * v * w) % p


def plain_poly(circuit, table, layer, dims, point, thrown):
    """Point 9.2: the honest polynomial of a round, by a sum over all corners behind it."""
    p, bits = circuit[1], circuit[2][layer + 1]
    left = dims + 2 * bits - len(thrown) - 1
    values = []
    for t in range(4 if len(thrown) < dims else 3):
        total = 0
        for rest in product((0, 1), repeat=left):
            total += summand(circuit, table, layer, dims, point, thrown + [t] + list(rest))
        values.append(total % p)
    return values


def plain_line(circuit, table, layer, dims, thrown):
    p, bits = circuit[1], circuit[2][layer + 1]
    r, x, y = thrown[:dims], thrown[dims:dims + bits], thrown[dims + bits:]
    return [table_value(table, r + point_between(x, y, t, p), p) for t in range(bits + 1)]


def throw_count(circuit, dims):
    widths = circuit[2]
    return dims + widths[0] + sum(dims + 2 * bits + 1 for bits in widths[1:])


def split_throws(circuit, dims, throws):
    """The first point, and for each layer its point, the throws of its rounds and that of its line."""
    p, widths = circuit[1], circuit[2]
    point, rest = throws[:dims + widths[0]], throws[dims + widths[0]:]
    parts = []
    for bits in widths[1:]:
        rounds = dims + 2 * bits
        thrown, t, rest = rest[:rounds], rest[rounds], rest[rounds + 1:]
        parts.append((point, thrown, t))
        x, y = thrown[dims:dims + bits], thrown[dims + bits:]
        point = thrown[:dims] + point_between(x, y, t, p)
    return parts


def plain_answers(circuit, rows, throws):
    """The honest answers, by sums over all corners."""
    dims = len(rows).bit_length() - 1
    tables = run_by_rows(circuit, rows)
    told = []
    for layer, (point, thrown, _) in enumerate(split_throws(circuit, dims, throws)):
        table = tables[layer + 1]
        polys = [plain_poly(circuit, table, layer, dims, point, thrown[:k]) for k in range(len(thrown))]
        told.append((polys, plain_line(circuit, table, layer, dims, thrown)))
    return told


def plain_blame(circuit, rows, outputs, throws, answers):
    """Point 10.4, for outputs that are believed, with honest answers from the program."""
    from layerask.answering import Answerer, answers as answers_of

    p, dims = circuit[1], len(rows).bit_length() - 1
    true = true_outputs(circuit, rows)
    if outputs == true:
        return None
    first = throws[:dims + circuit[2][0]]
    tables = [[row[g] for g in range(len(row_list[0])) for row in row_list] for row_list in (outputs, true)]
    if table_value(tables[0], first, p) == table_value(tables[1], first, p):
        return ("outputs",)
    honest = answers_of(Answerer(circuit, rows), throws)
    for layer, (_, thrown, t) in enumerate(split_throws(circuit, dims, throws)):
        for k, number in enumerate(thrown):
            sent, right = answers[layer][0][k], honest[layer][0][k]
            if sent != right and poly_value(sent, number, p) == poly_value(right, number, p):
                return ("round", layer, k)
        sent, right = answers[layer][1], honest[layer][1]
        if sent != right and poly_value(sent, t, p) == poly_value(right, t, p):
            return ("line", layer)
    return "no place"


def bluff(circuit, rows, outputs, throws, changes):
    """Answers that keep a claim alive as long as some answer fits.

    `changes` are numbers that make the answers differ from the honest ones,
    also where the claim is true.
    """
    from layerask.answering import Answerer

    p, dims = circuit[1], len(rows).bit_length() - 1
    answerer = Answerer(circuit, rows)
    table = [row[g] for g in range(len(outputs[0])) for row in outputs]
    parts = split_throws(circuit, dims, throws)
    claim = table_value(table, parts[0][0], p)
    told = []
    for layer, (point, thrown, t) in enumerate(parts):
        answerer.begin(layer, point)
        polys = []
        for number in thrown:
            sent = answerer.poly()
            sent[0] = (sent[0] + changes.below(2)) % p
            sent[2] = (sent[2] + changes.below(2)) % p
            sent[1] = (claim - sent[0]) % p
            polys.append(sent)
            claim = poly_value(sent, number, p)
            answerer.throw(number)
        sent = fitting_line(circuit, layer, dims, point, thrown, answerer.line(), claim, changes)
        answerer.throw(t)
        claim = poly_value(sent, t, p)
        told.append((polys, sent))
    return told


def fitting_line(circuit, layer, dims, point, thrown, line, claim, changes):
    """A line near the honest one that fits, or the honest one if there is none."""
    p, bits = circuit[1], circuit[2][layer + 1]
    x, y = thrown[dims:dims + bits], thrown[dims + bits:]
    a, b, m = plain_weights(circuit, layer, point[dims:], x, y)
    both = 1
    for here, there in zip(point[:dims], thrown[:dims]):
        both *= here * there + (1 - here) * (1 - there)
    start = changes.below(p)
    for step in range(p * p):
        v = (line[0] + (start + step) // p) % p
        w = (line[-1 if bits == 0 else 1] + step) % p if bits else v
        if (both * (a * v + b * w + m * v * w) - claim) % p == 0:
            return [v] if bits == 0 else [v, w] + line[2:]
    return line
