"""Names, kinds and sizes of programs (point 15)."""

from layerask.errors import ProgramError, SizeError
from layerask.field import is_prime
from layerask.trees import index_value, inner_parts

MOST_STEPS = 20000
MOST_DEPTH = 100

# A kind is the size of an array, or one of these.
FLAG = -1
NUMBER = 0


def size_of(kind):
    """The size of a value of a kind: 0 for a number and a flag."""
    return max(kind, NUMBER)


def count_numbers(sizes):
    """How many numbers values of these sizes have together."""
    return sum([max(size, 1) for size in sizes])


class Function:
    """What is known of a function that has been checked."""

    def __init__(self, sizes, kind, steps, depth):
        self.sizes = sizes
        self.kind = kind
        self.steps = steps
        self.depth = depth


class Checker:
    """What has been checked of a program, and what is visible at a place."""

    def __init__(self, p):
        self.p = p
        self.steps = 0
        # The line in which faults are found now.
        self.line = 1
        self.functions = {}
        # The kinds of the inputs and lets, and of the values that are visible in the present expression.
        self.known = {}
        self.visible = {}
        # The numbers of the loop variables that are visible.
        self.loops = {}

    def demand(self, holds, kind):
        """Raises ProgramError if something does not hold."""
        if not holds:
            raise ProgramError(kind, self.line)

    def spend(self, steps):
        """Counts steps."""
        self.steps += steps
        if self.steps > MOST_STEPS:
            raise SizeError("steps")

    def is_free(self, name):
        """Whether a name may be introduced in the present expression."""
        return name not in self.visible and name not in self.functions


def depth_of(e, functions):
    """The depth of an expression, with those of the functions that it calls."""
    deepest = 0
    left = [(e, 1)]
    while left:
        part, level = left.pop()
        inside = 0
        if part[0] == "call" and part[1] in functions:
            inside = functions[part[1]].depth
        deepest = max(deepest, level + inside)
        left.extend([(inner, level + 1) for inner in inner_parts(part)])
    return deepest


def checked_depth(e, functions):
    """The depth of an expression; raises SizeError if it is too great."""
    depth = depth_of(e, functions)
    if depth > MOST_DEPTH:
        raise SizeError("depth")
    return depth


def kind_of_num(checker, e):
    """A number of the text."""
    checker.demand(e[1] < checker.p, "number")
    return NUMBER


def kind_of_name(checker, e):
    """A name that stands for a value."""
    checker.demand(e[1] in checker.visible, "name")
    return checker.visible[e[1]]


def kind_of_call(checker, e):
    """A call; its steps are those of the function's expression."""
    _, name, arguments = e
    checker.demand(name in checker.functions, "name")
    function = checker.functions[name]
    kinds = []
    for argument in arguments:
        kinds.append(kind_of(checker, argument))
    checker.demand(len(kinds) == len(function.sizes), "call")
    checker.demand([size_of(kind) for kind in kinds] == function.sizes, "kind")
    checker.spend(function.steps)
    return function.kind


def kind_of_array(checker, e):
    """An array in brackets."""
    greatest = NUMBER
    for part in e[1]:
        greatest = max(greatest, kind_of(checker, part))
    checker.demand(greatest == NUMBER, "kind")
    return len(e[1])


def kind_of_at(checker, e):
    """A place of an array."""
    size = size_of(kind_of(checker, e[1]))
    checker.demand(size > 0, "kind")
    index = index_value(e[2], checker.loops)
    checker.demand(index is not None and 0 <= index < size, "index")
    return NUMBER


def kind_of_neg(checker, e):
    """The negative of a number or an array."""
    return size_of(kind_of(checker, e[1]))


def kind_of_not(checker, e):
    """The word "not" and a flag."""
    checker.demand(kind_of(checker, e[1]) == FLAG, "kind")
    return FLAG


def kind_of_power(checker, e):
    """A power of a number."""
    checker.demand(size_of(kind_of(checker, e[1])) == 0, "kind")
    return NUMBER


def kind_of_sum(checker, e):
    """A sum or a difference of two numbers or two arrays."""
    left = kind_of(checker, e[1])
    right = kind_of(checker, e[2])
    checker.demand(size_of(left) == size_of(right), "kind")
    return size_of(left)


def kind_of_product(checker, e):
    """The "*" of two numbers, or of a number and an array."""
    left = kind_of(checker, e[1])
    right = kind_of(checker, e[2])
    checker.demand(size_of(left) == 0 or size_of(right) == 0, "kind")
    return max(size_of(left), size_of(right))


def kind_of_equality(checker, e):
    """Two numbers that are compared."""
    left = kind_of(checker, e[1])
    right = kind_of(checker, e[2])
    checker.demand(size_of(left) == 0 and size_of(right) == 0, "kind")
    return FLAG


def kind_of_flags(checker, e):
    """The words "and" and "or" between two flags."""
    left = kind_of(checker, e[1])
    right = kind_of(checker, e[2])
    checker.demand(left == FLAG and right == FLAG, "kind")
    return FLAG


def kind_of_if(checker, e):
    """An "if"."""
    test = kind_of(checker, e[1])
    left = kind_of(checker, e[2])
    right = kind_of(checker, e[3])
    checker.demand(test == FLAG and size_of(left) == size_of(right), "kind")
    return left if left == right else NUMBER


def kind_of_loop(checker, e):
    """A "sum", a "product" or an "each"; the last expression is checked for each value of the variable."""
    word, name, many, last = e
    checker.demand(checker.is_free(name), "name")
    checker.visible[name] = NUMBER
    for number in range(many):
        checker.loops[name] = number
        checker.demand(size_of(kind_of(checker, last)) == 0, "kind")
    del checker.visible[name]
    del checker.loops[name]
    return many if word == "each" else NUMBER


def kind_of_repeat(checker, e):
    """A "repeat"; its last expression is checked once, but counts as often as it is evaluated."""
    _, many, name, start, last = e
    size = size_of(kind_of(checker, start))
    checker.demand(checker.is_free(name), "name")
    checker.visible[name] = size
    before = checker.steps
    again = size_of(kind_of(checker, last))
    checker.demand(again == size, "kind")
    checker.spend((many - 1) * (checker.steps - before))
    del checker.visible[name]
    return size


KINDS = {"num": kind_of_num, "name": kind_of_name, "call": kind_of_call, "array": kind_of_array, "at": kind_of_at,
         "neg": kind_of_neg, "not": kind_of_not, "power": kind_of_power, "+": kind_of_sum, "-": kind_of_sum,
         "*": kind_of_product, "==": kind_of_equality, "and": kind_of_flags, "or": kind_of_flags, "if": kind_of_if,
         "sum": kind_of_loop, "product": kind_of_loop, "each": kind_of_loop, "repeat": kind_of_repeat}


def kind_of(checker, e):
    """The kind of an expression, which is counted and checked."""
    checker.spend(1)
    action = KINDS[e[0]]
    return action(checker, e)


def whole_kind(checker, e, visible):
    """The kind of an expression that is not in another one, for the kinds of the values that are visible."""
    checker.visible = dict(visible)
    return kind_of(checker, e)


def value_kind(checker, e):
    """The kind of the expression of a let or an output."""
    checked_depth(e, checker.functions)
    return whole_kind(checker, e, checker.known)


def check_input(checker, cell):
    """Checks an input, and makes it visible."""
    name, size, line = cell
    checker.line = line
    checker.demand(name not in checker.known, "name")
    checker.known[name] = size


def check_let(checker, part):
    """Checks a let, and makes it visible."""
    _, name, e, line = part
    checker.line = line
    checker.demand(name not in checker.known and name not in checker.functions, "name")
    checker.known[name] = value_kind(checker, e)


def check_parameters(checker, function, cells):
    """The kinds of the parameters of a function."""
    kinds = {}
    for name, size, line in cells:
        checker.line = line
        checker.demand(name != function and name not in kinds and name not in checker.functions, "name")
        kinds[name] = size
    return kinds


def check_function(checker, part):
    """Checks a function, and makes it visible."""
    _, name, cells, e, line = part
    checker.line = line
    checker.demand(name not in checker.known and name not in checker.functions, "name")
    kinds = check_parameters(checker, name, cells)
    checker.line = line
    depth = checked_depth(e, checker.functions)
    before = checker.steps
    kind = whole_kind(checker, e, kinds)
    sizes = [size for _, size, _ in cells]
    checker.functions[name] = Function(sizes, kind, checker.steps - before, depth)


def output_sizes(program):
    """The sizes of the outputs of a program that is checked."""
    _, p, inputs, parts, outputs = program
    checker = Checker(p)
    checker.demand(is_prime(p), "prime")
    for cell in inputs:
        check_input(checker, cell)
    for part in parts:
        if part[0] == "let":
            check_let(checker, part)
        else:
            check_function(checker, part)
    sizes = []
    for e, line in outputs:
        checker.line = line
        sizes.append(size_of(value_kind(checker, e)))
    return sizes


def check(program):
    """Raises ProgramError or SizeError if a program is not valid."""
    output_sizes(program)
