"""The nodes of large expressions, and their shapes (points 27.4 to 27.6)."""

from layerask.errors import ProgramError, SizeError
from layerask.field import is_prime

MOST_NODES = 64
MOST_DIMENSIONS = 8

OPERATORS = {"+": "add", "-": "sub"}


def is_vector(shape):
    """Whether a shape is that of a vector."""
    return len(shape) == 1


def is_matrix(shape):
    """Whether a shape is that of a matrix."""
    return len(shape) == 2


def pair_shape(word, x, y):
    """The shape of an operation of two operands; None if theirs do not fit."""
    if word == "add" or word == "sub" or word == "times":
        return x if x == y else None
    if word == "dot":
        return () if is_vector(x) and x == y else None
    if word == "mm":
        return (x[0], y[1]) if is_matrix(x) and is_matrix(y) and x[1] == y[0] else None
    if word == "mv":
        return (x[0],) if is_matrix(x) and is_vector(y) and x[1] == y[0] else None
    return x + y if is_vector(x) and is_vector(y) else None


def single_shape(word, x):
    """The shape of an operation of one operand; None if its shape does not fit."""
    if word == "sum":
        return () if is_vector(x) or is_matrix(x) else None
    if word == "product":
        return () if is_vector(x) else None
    if word == "transpose":
        return (x[1], x[0]) if is_matrix(x) else None
    return x if is_vector(x) else None


class Maker:
    """The nodes that have been made, and what the names stand for."""

    def __init__(self, p):
        self.nodes = []
        self.shapes = []
        self._p = p
        # The line in which faults are found now.
        self._line = 1
        self._places = {}
        self._names = {}

    def begin(self, name, line):
        """Begins an input or a let."""
        self._line = line
        self._demand(name not in self._names, "name")

    def begin_claim(self, line):
        """Begins the claim, which has no name."""
        self._line = line

    def hold(self, name, at):
        """Makes a name known."""
        self._names[name] = at

    def made(self, node, shape):
        """The index of a node, which is made if it is not there already."""
        if node not in self._places:
            if sum(shape) > MOST_DIMENSIONS:
                raise SizeError("dims")
            if len(self.nodes) == MOST_NODES:
                raise SizeError("nodes")
            self._places[node] = len(self.nodes)
            self.nodes.append(node)
            self.shapes.append(shape)
        return self._places[node]

    def made_of(self, e):
        """The index of the node of an expression."""
        if e[0] == "num":
            self._demand(e[1] < self._p, "number")
            return self.made(("number", e[1]), ())
        if e[0] == "name":
            self._demand(e[1] in self._names, "name")
            return self._names[e[1]]
        if e[0] == "neg":
            at = self.made_of(e[1])
            return self._scaled(self.made(("number", self._p - 1), ()), at)
        if e[0] == "call":
            return self._operation(e[1], [self.made_of(part) for part in e[2]])
        x = self.made_of(e[1])
        y = self.made_of(e[2])
        if e[0] == "*":
            return self._product(x, y)
        return self._operation(OPERATORS[e[0]], [x, y])

    def _demand(self, holds, kind):
        """Raises ProgramError if something does not hold."""
        if not holds:
            raise ProgramError(kind, self._line)

    def _scaled(self, number, at):
        """A number times a node."""
        return self.made(("scale", number, at), self.shapes[at])

    def _product(self, x, y):
        """The product of two nodes."""
        if self.shapes[x] == ():
            return self._scaled(x, y)
        if self.shapes[y] == ():
            return self._scaled(y, x)
        return self._operation("times", [x, y])

    def _operation(self, word, places):
        """An operation whose operands need certain shapes."""
        shapes = [self.shapes[at] for at in places]
        shape = single_shape(word, shapes[0]) if len(places) == 1 else pair_shape(word, shapes[0], shapes[1])
        self._demand(shape is not None, "kind")
        return self.made((word,) + tuple(places), shape)


def nodes_of(program):
    """The plan of a program."""
    _, p, inputs, lets, claim = program
    if not is_prime(p):
        raise ProgramError("prime", 1)
    maker = Maker(p)
    for at, (name, shape, line) in enumerate(inputs):
        maker.begin(name, line)
        maker.hold(name, maker.made(("input", at), shape))
    for name, e, line in lets:
        maker.begin(name, line)
        maker.hold(name, maker.made_of(e))
    e, line = claim
    maker.begin_claim(line)
    last = maker.made_of(e)
    return ("nodes", p, maker.nodes, maker.shapes, last)


def operands(node):
    """The indices of the nodes that a node needs."""
    if node[0] == "input" or node[0] == "number":
        return []
    return list(node[1:])


def uses(nodes, last):
    """The numbers of claims about the nodes."""
    found = [0] * len(nodes)
    found[last] = 1
    for at in range(last, -1, -1):
        if found[at] > 0:
            for operand in operands(nodes[at]):
                found[operand] += 1
    return found
