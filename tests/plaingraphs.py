"""Point 17 word by word: the graph of a valid program, and point 18: its circuit. Slow and plain."""

from programs import LOOPS, functions_of

MOST = 4096


class TooMany(Exception):
    pass


class PlainBuilder:
    def __init__(self, tree):
        self.p, self.functions = tree[1], functions_of(tree)
        self.nodes, self.places = [("one",)], {}
        values = {}
        for word, size, _ in tree[2]:
            made = []
            for _ in range(max(size, 1)):
                self.nodes.append(("input", len(self.nodes) - 1))
                made.append(("node", len(self.nodes) - 1))
            values[word] = made if size else made[0]
        self.many = len(self.nodes) - 1
        for part in tree[3]:
            if part[0] == "let":
                values[part[1]] = self.of(part[2], values, {})
        handles = []
        for e, _ in tree[4]:
            found = self.of(e, values, {})
            handles += found if isinstance(found, list) else [found]
        self.outputs = [self.output(handle) for handle in handles]

    def node(self, told):
        if told not in self.places:
            if len(self.nodes) - 1 - self.many >= MOST:
                raise TooMany()
            self.places[told] = len(self.nodes)
            self.nodes.append(told)
        return ("node", self.places[told])

    def output(self, handle):
        kind, number = handle
        if kind == "node":
            return number
        return 0 if number == 1 else self.node(("lin", number, 0, 0, 0))[1]

    def combine(self, terms):
        """The combination of numbers times handles."""
        sums = {}
        for number, (kind, held) in terms:
            at, count = (held, 1) if kind == "node" else (0, held)
            sums[at] = (sums.get(at, 0) + number * count) % self.p
        sums = {at: number for at, number in sums.items() if number}
        if not sums:
            return ("constant", 0)
        if list(sums) == [0]:
            return ("constant", sums[0])
        if len(sums) == 1:
            (at, number), = sums.items()
            return ("node", at) if number == 1 else self.node(("lin", number, at, 0, at))
        x, y = sorted(sums)
        return self.node(("lin", sums[x], x, sums[y], y))

    def multiply(self, u, v):
        if u[0] == "constant" and v[0] == "constant":
            return ("constant", u[1] * v[1] % self.p)
        if u[0] == "constant":
            return self.combine([(u[1], v)])
        if v[0] == "constant":
            return self.combine([(v[1], u)])
        return self.node(("mul", 1) + tuple(sorted((u[1], v[1]))))

    def raise_to(self, u, exponent):
        if exponent == 0:
            return ("constant", 1)
        digits = [int(digit) for digit in reversed(format(exponent, "b"))]
        square, so_far = u, None
        for at, digit in enumerate(digits):
            if at > 0:
                square = self.multiply(square, square)
            if digit:
                so_far = square if so_far is None else self.multiply(so_far, square)
        return so_far

    def index(self, e, loops):
        if e[0] == "num":
            return e[1]
        if e[0] == "name":
            return loops[e[1]]
        left, right = self.index(e[1], loops), self.index(e[2], loops)
        return {"+": left + right, "-": left - right, "*": left * right}[e[0]]

    def neighbours(self, turns, join):
        while len(turns) > 1:
            following = []
            for at in range(0, len(turns), 2):
                following.append(join(turns[at], turns[at + 1]) if at + 1 < len(turns) else turns[at])
            turns = following
        return turns[0]

    def of(self, e, values, loops):
        p, word = self.p, e[0]
        if word == "num":
            return ("constant", e[1])
        if word == "name":
            return values[e[1]]
        if word == "at":
            return self.of(e[1], values, loops)[self.index(e[2], loops)]
        if word in LOOPS:
            turns = [self.of(e[3], dict(values, **{e[1]: ("constant", k % p)}), dict(loops, **{e[1]: k})) for k in range(e[2])]
            if word == "each":
                return turns
            if word == "sum":
                return self.neighbours(turns, lambda u, v: self.combine([(1, u), (1, v)]))
            return self.neighbours(turns, self.multiply)
        if word == "repeat":
            found = self.of(e[3], values, loops)
            for _ in range(e[1]):
                found = self.of(e[4], dict(values, **{e[2]: found}), loops)
            return found
        if word == "call":
            given = [self.of(part, values, loops) for part in e[2]]
            _, _, cells, body, _ = self.functions[e[1]]
            return self.of(body, {cell[0]: part for cell, part in zip(cells, given)}, {})
        if word == "array":
            return [self.of(part, values, loops) for part in e[1]]
        if word == "power":
            return self.raise_to(self.of(e[1], values, loops), e[2])
        return self.placed(word, [self.of(part, values, loops) for part in e[1:]])

    def placed(self, word, parts):
        """An operation, for arrays place by place."""
        arrays = [part for part in parts if isinstance(part, list)]
        if not arrays:
            return self.single(word, parts)
        return [self.single(word, [part[at] if isinstance(part, list) else part for part in parts])
                for at in range(len(arrays[0]))]

    def single(self, word, parts):
        u, v = parts[0], parts[-1]
        one = ("constant", 1)
        if word == "neg":
            return self.combine([(-1, u)])
        if word == "not":
            return self.combine([(1, one), (-1, u)])
        if word == "+" or word == "-":
            return self.combine([(1, u), (1 if word == "+" else -1, v)])
        if word == "*" or word == "and":
            return self.multiply(u, v)
        if word == "or":
            total = self.combine([(1, u), (1, v)])
            return self.combine([(1, total), (-1, self.multiply(u, v))])
        if word == "==":
            return self.combine([(1, one), (-1, self.raise_to(self.combine([(1, u), (-1, v)]), self.p - 1))])
        if u == ("constant", 0) or u == one:
            return parts[1] if u == one else v
        return self.combine([(1, self.multiply(u, self.combine([(1, parts[1]), (-1, v)]))), (1, v)])


def reads(node):
    return {"lin": (2, 4), "mul": (2, 3)}.get(node[0], ())


def plain_graph(tree):
    """The graph by point 17; raises TooMany."""
    builder = PlainBuilder(tree)
    needed, left = set(range(builder.many + 1)), list(builder.outputs)
    while left:
        at = left.pop()
        if at not in needed:
            needed.add(at)
            left += [builder.nodes[at][k] for k in reads(builder.nodes[at])]
    order = sorted(needed)
    nodes = []
    for at in order:
        node = list(builder.nodes[at])
        for k in reads(node):
            node[k] = order.index(node[k])
        nodes.append(tuple(node))
    return ("graph", tree[1], builder.many, nodes, [order.index(at) for at in builder.outputs])


def plain_levels(graph):
    found = []
    for node in graph[3]:
        found.append(1 + max(found[node[k]] for k in reads(node)) if reads(node) else 0)
    return found


def plain_circuit(graph):
    """The circuit by points 18.1 to 18.3, or the limit of point 18.4."""
    _, p, many, nodes, outputs = graph
    level = plain_levels(graph)
    high = max([1] + [level[at] for at in outputs])
    if high > 64:
        return "layers"
    columns = [list(outputs)]
    for i in range(high):
        found = set()
        for at in columns[i]:
            found |= {nodes[at][k] for k in reads(nodes[at])} if level[at] == high - i else {at}
        columns.append(sorted(found))
    columns[high] = list(range(many + 1))
    widths = []
    for held in columns:
        widths.append(next(w for w in range(50) if 2 ** w >= len(held)))
    if max(widths) > 8:
        return "columns"
    if sum(2 ** w for w in widths[:-1]) > 4096:
        return "gates"
    layers = []
    for i in range(high):
        gates = []
        for at in columns[i]:
            if level[at] == high - i:
                node = list(nodes[at])
                for k in reads(node):
                    node[k] = columns[i + 1].index(node[k])
                gates.append(tuple(node))
            else:
                gates.append(("lin", 1, columns[i + 1].index(at), 0, columns[i + 1].index(at)))
        layers.append(gates + [("lin", 0, 0, 0, 0)] * (2 ** widths[i] - len(gates)))
    return ("circuit", p, widths, layers)
