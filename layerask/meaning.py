"""The meaning of programs (point 16), and the way through their expressions that building their graphs takes, too."""

from layerask.field import power
from layerask.trees import index_value


class Numbers:
    """Calculating with numbers modulo p."""

    def __init__(self, p):
        self._p = p

    def needs_both(self):
        """Whether both branches of an "if" are evaluated."""
        return False

    def constant(self, number):
        """A number of the text, or that of a loop variable."""
        return number % self._p

    def plus(self, u, v):
        return (u + v) % self._p

    def minus(self, u, v):
        return (u - v) % self._p

    def negative(self, u):
        return -u % self._p

    def times(self, u, v):
        return u * v % self._p

    def raised(self, u, exponent):
        """The power."""
        return power(u, exponent, self._p)

    def equal(self, u, v):
        return 1 if u == v else 0

    def opposite(self, u):
        """The other flag."""
        return 1 - u

    def either(self, u, v):
        """Whether at least one flag is 1."""
        return max(u, v)

    def summed(self, turns):
        """The sum of the turns of a loop."""
        return sum(turns) % self._p

    def multiplied(self, turns):
        """The product of the turns of a loop."""
        found = 1
        for turn in turns:
            found = found * turn % self._p
        return found


class Scope:
    """What the names in an expression stand for, and how its values are calculated."""

    def __init__(self, ways, functions, held):
        self.ways = ways
        self.functions = functions
        self.held = held
        # The loop variables as they stand in an index.
        self.loops = {}


def value_of_num(scope, e):
    return scope.ways.constant(e[1])


def value_of_name(scope, e):
    return scope.held[e[1]]


def value_of_call(scope, e):
    _, name, arguments = e
    cells, body = scope.functions[name]
    held = {}
    for cell, argument in zip(cells, arguments):
        held[cell[0]] = value_of(scope, argument)
    return value_of(Scope(scope.ways, scope.functions, held), body)


def value_of_array(scope, e):
    return [value_of(scope, part) for part in e[1]]


def value_of_at(scope, e):
    return value_of(scope, e[1])[index_value(e[2], scope.loops)]


def value_of_neg(scope, e):
    u = value_of(scope, e[1])
    if isinstance(u, list):
        return [scope.ways.negative(entry) for entry in u]
    return scope.ways.negative(u)


def value_of_not(scope, e):
    return scope.ways.opposite(value_of(scope, e[1]))


def value_of_power(scope, e):
    return scope.ways.raised(value_of(scope, e[1]), e[2])


def value_of_plus(scope, e):
    u = value_of(scope, e[1])
    v = value_of(scope, e[2])
    if isinstance(u, list):
        return [scope.ways.plus(left, right) for left, right in zip(u, v)]
    return scope.ways.plus(u, v)


def value_of_minus(scope, e):
    u = value_of(scope, e[1])
    v = value_of(scope, e[2])
    if isinstance(u, list):
        return [scope.ways.minus(left, right) for left, right in zip(u, v)]
    return scope.ways.minus(u, v)


def value_of_times(scope, e):
    u = value_of(scope, e[1])
    v = value_of(scope, e[2])
    if isinstance(u, list):
        return [scope.ways.times(entry, v) for entry in u]
    if isinstance(v, list):
        return [scope.ways.times(u, entry) for entry in v]
    return scope.ways.times(u, v)


def value_of_equality(scope, e):
    u = value_of(scope, e[1])
    return scope.ways.equal(u, value_of(scope, e[2]))


def value_of_or(scope, e):
    u = value_of(scope, e[1])
    return scope.ways.either(u, value_of(scope, e[2]))


def value_of_if(scope, e):
    test = value_of(scope, e[1])
    if not scope.ways.needs_both():
        return value_of(scope, e[2] if test == 1 else e[3])
    u = value_of(scope, e[2])
    v = value_of(scope, e[3])
    if isinstance(u, list):
        return [scope.ways.chosen(test, left, right) for left, right in zip(u, v)]
    return scope.ways.chosen(test, u, v)


def value_of_loop(scope, e):
    word, name, many, last = e
    turns = []
    for number in range(many):
        scope.held[name] = scope.ways.constant(number)
        scope.loops[name] = number
        turns.append(value_of(scope, last))
    # Behind the loop its variable is no loop variable any more.
    del scope.held[name]
    del scope.loops[name]
    if word == "sum":
        return scope.ways.summed(turns)
    return turns if word == "each" else scope.ways.multiplied(turns)


def value_of_repeat(scope, e):
    _, many, name, start, last = e
    found = value_of(scope, start)
    for _ in range(many):
        scope.held[name] = found
        found = value_of(scope, last)
    del scope.held[name]
    return found


VALUES = {"num": value_of_num, "name": value_of_name, "call": value_of_call, "array": value_of_array, "at": value_of_at,
          "neg": value_of_neg, "not": value_of_not, "power": value_of_power, "+": value_of_plus, "-": value_of_minus,
          "*": value_of_times, "==": value_of_equality, "and": value_of_times, "or": value_of_or, "if": value_of_if,
          "sum": value_of_loop, "product": value_of_loop, "each": value_of_loop, "repeat": value_of_repeat}


def value_of(scope, e):
    """The value of an expression; arrays are lists."""
    action = VALUES[e[0]]
    return action(scope, e)


def held_inputs(inputs, row):
    """The values of the inputs, from a row with one for each number."""
    held = {}
    at = 0
    for name, size, _ in inputs:
        held[name] = row[at] if size == 0 else row[at:at + size]
        at += max(size, 1)
    return held


def output_values(ways, program, row):
    """The values of the outputs, one after the other, calculated in these ways from a row of inputs."""
    _, _, inputs, parts, outputs = program
    scope = Scope(ways, {}, held_inputs(inputs, row))
    for part in parts:
        if part[0] == "let":
            _, name, e, _ = part
            scope.held[name] = value_of(scope, e)
        else:
            _, name, cells, e, _ = part
            scope.functions[name] = (cells, e)
    found = []
    for e, _ in outputs:
        result = value_of(scope, e)
        found.extend(result if isinstance(result, list) else [result])
    return found


def evaluate(program, numbers):
    """The numbers of the outputs that a valid program means for a row of inputs."""
    return output_values(Numbers(program[1]), program, numbers)
