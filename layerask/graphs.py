"""The graph of a program (point 17)."""

from layerask.errors import SizeError
from layerask.meaning import output_values
from layerask.sizes import count_numbers

MOST_MADE = 4096

# Node 0, which has the value 1.
ONE = 0


class Builder:
    """Calculating with handles, which makes nodes.

    A handle is a pair of a number and a node, and means the number times the
    node: a constant is a multiple of node 0, every other handle is 1 times a node.
    """

    def __init__(self, p, many):
        self.nodes = [("one",)] + [("input", k) for k in range(many)]
        self._p = p
        self._given = many + 1
        self._known = {}

    def needs_both(self):
        """Whether both branches of an "if" are evaluated."""
        return True

    def constant(self, number):
        """A number of the text, or that of a loop variable."""
        return (number % self._p, ONE)

    def plus(self, u, v):
        return self._combined(1, u, 1, v)

    def minus(self, u, v):
        return self._combined(1, u, self._p - 1, v)

    def negative(self, u):
        return self._combined(self._p - 1, u, 0, u)

    def times(self, u, v):
        count, node = u
        other_count, other_node = v
        if node == ONE:
            return self._combined(count, v, 0, v)
        if other_node == ONE:
            return self._combined(other_count, u, 0, u)
        return self._made(("mul", 1, min(node, other_node), max(node, other_node)))

    def raised(self, u, exponent):
        """The power, by squares."""
        found = self.constant(1)
        square = u
        left = exponent
        while left > 0:
            if left & 1:
                found = self.times(found, square)
            left = left >> 1
            if left > 0:
                square = self.times(square, square)
        return found

    def equal(self, u, v):
        return self.opposite(self.raised(self.minus(u, v), self._p - 1))

    def opposite(self, u):
        """The other flag."""
        return self.minus(self.constant(1), u)

    def either(self, u, v):
        """Whether at least one flag is 1."""
        both = self.plus(u, v)
        return self.minus(both, self.times(u, v))

    def chosen(self, test, u, v):
        """The first handle if the test is 1, otherwise the second one."""
        count, node = test
        if node == ONE:
            return u if count == 1 else v
        return self.plus(self.times(test, self.minus(u, v)), v)

    def summed(self, turns):
        """The sum of the turns of a loop, neighbours first."""
        left = list(turns)
        while len(left) > 1:
            pairs = [self.plus(left[at], left[at + 1]) for at in range(0, len(left) - 1, 2)]
            left = pairs + left[2 * len(pairs):]
        return left[0]

    def multiplied(self, turns):
        """The product of the turns of a loop, neighbours first."""
        left = list(turns)
        while len(left) > 1:
            pairs = [self.times(left[at], left[at + 1]) for at in range(0, len(left) - 1, 2)]
            left = pairs + left[2 * len(pairs):]
        return left[0]

    def output_node(self, handle):
        """The node of a handle that is an output."""
        count, node = handle
        # Only constants are other multiples than one of their node, and no combination makes a node of them.
        if count != 1:
            _, node = self._made(("lin", count, ONE, 0, ONE))
        return node

    def _combined(self, a, u, b, v):
        """The handle of a times u and b times v."""
        counts = {}
        for times, (count, node) in ((a, u), (b, v)):
            counts[node] = (counts.get(node, 0) + times * count) % self._p
        left = sorted([(node, count) for node, count in counts.items() if count != 0])
        if len(left) == 0:
            return self.constant(0)
        x, first = left[0]
        if len(left) == 2:
            y, second = left[1]
            return self._made(("lin", first, x, second, y))
        if x == ONE or first == 1:
            return (first, x)
        return self._made(("lin", first, x, 0, x))

    def _made(self, node):
        """The handle of a node, which is made if it is not there already."""
        if node not in self._known:
            if len(self.nodes) - self._given == MOST_MADE:
                raise SizeError("gates")
            self._known[node] = len(self.nodes)
            self.nodes.append(node)
        return (1, self._known[node])


def operands(node):
    """The nodes that a node reads."""
    if node[0] == "lin":
        return [node[2], node[4]]
    if node[0] == "mul":
        return [node[2], node[3]]
    return []


def renamed(node, places):
    """A node over the new places of the nodes that it reads."""
    if node[0] == "lin":
        _, a, x, b, y = node
        return ("lin", a, places[x], b, places[y])
    if node[0] == "mul":
        _, c, x, y = node
        return ("mul", c, places[x], places[y])
    return node


def needed_nodes(nodes, given, outputs):
    """For each node whether it stays: it is given, or an output needs it."""
    needed = [at < given for at in range(len(nodes))]
    for at in outputs:
        needed[at] = True
    for at in range(len(nodes) - 1, -1, -1):
        if needed[at]:
            for node in operands(nodes[at]):
                needed[node] = True
    return needed


def build(program):
    """The graph of a valid program."""
    _, p, inputs, _, _ = program
    many = count_numbers([size for _, size, _ in inputs])
    builder = Builder(p, many)
    handles = output_values(builder, program, [(1, k + 1) for k in range(many)])
    outputs = [builder.output_node(handle) for handle in handles]
    needed = needed_nodes(builder.nodes, many + 1, outputs)
    places = {}
    staying = []
    for at, node in enumerate(builder.nodes):
        if needed[at]:
            places[at] = len(staying)
            staying.append(renamed(node, places))
    return ("graph", p, many, staying, [places[at] for at in outputs])


def evaluate_graph(graph, numbers):
    """The values of the outputs of a graph for a list of inputs."""
    _, p, _, nodes, outputs = graph
    values = []
    for node in nodes:
        if node[0] == "one":
            values.append(1)
        elif node[0] == "input":
            values.append(numbers[node[1]])
        elif node[0] == "lin":
            _, a, x, b, y = node
            values.append((a * values[x] + b * values[y]) % p)
        else:
            _, c, x, y = node
            values.append(c * values[x] * values[y] % p)
    return [values[at] for at in outputs]
