"""Large expressions for tests, and plain calculations about them, which follow point 27 word by word."""

from itertools import product

from bluffs import agreement, mixed_near, mixed_value, nearness
from plain import Numbers, poly_value, table_value


def num(n):
    return ("num", n)


def name(text):
    return ("name", text)


def call(word, *parts):
    return ("call", word, list(parts))


def written(e):
    """The text of an expression, with parentheses around everything."""
    if e[0] in ("num", "name"):
        return str(e[1])
    if e[0] == "neg":
        return f"-{written(e[1])}"
    if e[0] == "call":
        return f"{e[1]}({', '.join(written(part) for part in e[2])})"
    return f"({written(e[1])} {e[0]} {written(e[2])})"


class LargeSampler:
    """Programs that look thrown; `deep` is how deep their expressions are."""

    def __init__(self, seed, p, deep=3, most=2):
        self.numbers, self.p, self.deep, self.most = Numbers(seed), p, deep, most
        self.shapes = {}

    def pick(self, things):
        return things[self.numbers.below(len(things))]

    def small(self):
        return self.numbers.below(self.most + 1)

    def expression(self, shape, deep):
        fitting = [word for word, held in self.shapes.items() if held == shape]
        choice = self.numbers.below(9)
        if deep <= 0 or choice == 0:
            if fitting:
                return name(self.pick(fitting))
            if shape == () and deep <= 0:
                return num(self.numbers.below(min(self.p, 9)))
            if deep < -6:
                word = f"{'nvm'[len(shape)]}{len(self.shapes)}"
                self.shapes[word] = shape
                self.inputs.append((word, shape))
                return name(word)
        deep -= 1
        if choice < 4:
            return (self.pick("+-"), self.expression(shape, deep), self.expression(shape, deep))
        if choice == 4:
            return ("neg", self.expression(shape, deep))
        if choice == 5:
            pair = [self.expression((), deep), self.expression(shape, deep)]
            return ("*",) + tuple(pair if self.numbers.below(2) else pair[::-1])
        if choice == 6:
            return ("*", self.expression(shape, deep), self.expression(shape, deep))
        return self.operation(shape, deep)

    def operation(self, shape, deep):
        other = (self.small(),)
        if shape == ():
            if self.numbers.below(2):
                return call("dot", self.expression(other, deep), self.expression(other, deep))
            if self.numbers.below(2):
                return call("product", self.expression(other, deep))
            return call("sum", self.expression(self.pick([other, other + (self.small(),)]), deep))
        if len(shape) == 1:
            if self.numbers.below(2):
                return call("transform", self.expression(shape, deep))
            return call("mv", self.expression(shape + other, deep), self.expression(other, deep))
        if self.numbers.below(3) == 0:
            return call("outer", self.expression(shape[:1], deep), self.expression(shape[1:], deep))
        if self.numbers.below(2):
            return call("transpose", self.expression(shape[::-1], deep))
        return call("mm", self.expression(shape[:1] + other, deep), self.expression(other + shape[1:], deep))

    def text(self):
        """The text of a program; inputs are made where they are needed."""
        self.inputs = []
        for word, shape in (("a", ()), ("u", (self.small(),)), ("v", (self.small(),)), ("w", (self.small(), self.small()))):
            if self.numbers.below(4):
                self.inputs.append((word, shape))
                self.shapes[word] = shape
        lets = []
        for at in range(self.numbers.below(3)):
            shape = self.pick([(), (self.small(),), (self.small(), self.small())])
            lets.append((f"let{at}", self.expression(shape, self.deep)))
            self.shapes[f"let{at}"] = shape
        shape = self.pick([(), (self.small(),), (self.small(), self.small())])
        claim = self.expression(shape, self.deep)
        words = ("number", "vector", "matrix")
        lines = [f"field {self.p}"] + [" ".join([words[len(held)], word] + [str(number) for number in held]) for word, held in self.inputs]
        lines += [f"let {word} = {written(e)}" for word, e in lets] + [f"claim {written(claim)}"]
        return "\n".join(lines)


def signs(r, c):
    return -1 if bin(r & c).count("1") % 2 else 1


class PlainValues:
    """The shape and the table of the claim, by the tree alone."""

    def __init__(self, program, inputs):
        _, self.p, cells, lets, (claim, _) = program
        self.held = {word: (shape, list(table)) for (word, shape, _), table in zip(cells, inputs)}
        for word, e, _ in lets:
            self.held[word] = self.of(e)
        self.shape, self.table = self.of(claim)

    def of(self, e):
        shape, table = self.whole(e)
        return shape, [entry % self.p for entry in table]

    def whole(self, e):
        if e[0] == "num":
            return (), [e[1]]
        if e[0] == "name":
            return self.held[e[1]]
        if e[0] == "neg":
            shape, table = self.of(e[1])
            return shape, [-entry for entry in table]
        if e[0] == "call":
            return self.called(e[1], [self.of(part) for part in e[2]])
        (shape, x), (other, y) = self.of(e[1]), self.of(e[2])
        if e[0] == "*" and shape == ():
            return other, [x[0] * entry for entry in y]
        if e[0] == "*" and other == ():
            return shape, [entry * y[0] for entry in x]
        signed = {"+": lambda u, v: u + v, "-": lambda u, v: u - v, "*": lambda u, v: u * v}[e[0]]
        return shape, [signed(u, v) for u, v in zip(x, y)]

    def called(self, word, parts):
        shape, x = parts[0]
        other, y = parts[-1]
        if word == "dot":
            return (), [sum(u * v for u, v in zip(x, y))]
        if word == "sum":
            return (), [sum(x)]
        if word == "product":
            found = 1
            for entry in x:
                found *= entry
            return (), [found]
        if word == "transform":
            return shape, [sum(entry * signs(r, c) for c, entry in enumerate(x)) for r in range(len(x))]
        if word == "outer":
            return shape + other, [u * v for v in y for u in x]
        rows, columns = 2 ** shape[0], 2 ** shape[1]
        if word == "transpose":
            return shape[::-1], [x[i + rows * j] for i in range(rows) for j in range(columns)]
        if word == "mv":
            return shape[:1], [sum(x[i + rows * j] * y[j] for j in range(columns)) for i in range(rows)]
        last = len(y) // columns
        return (shape[0], other[1]), [sum(x[i + rows * k] * y[k + columns * j] for k in range(columns)) for j in range(last) for i in range(rows)]


class PlainNodes:
    """Point 27.4 for valid programs: the nodes by the tree."""

    def __init__(self, program):
        _, self.p, cells, lets, (claim, _) = program
        self.nodes, self.shapes, self.held = [], [], {}
        for k, (word, shape, _) in enumerate(cells):
            self.held[word] = self.make(("input", k), shape)
        for word, e, _ in lets:
            self.held[word] = self.of(e)
        self.last = self.of(claim)

    def make(self, node, shape):
        if node in self.nodes:
            return self.nodes.index(node)
        self.nodes.append(node)
        self.shapes.append(shape)
        return len(self.nodes) - 1

    def of(self, e):
        if e[0] == "num":
            return self.make(("number", e[1]), ())
        if e[0] == "name":
            return self.held[e[1]]
        if e[0] == "neg":
            at = self.of(e[1])
            return self.make(("scale", self.make(("number", self.p - 1), ()), at), self.shapes[at])
        places = [self.of(part) for part in (e[2] if e[0] == "call" else e[1:])]
        shapes = [self.shapes[at] for at in places]
        if e[0] == "*":
            if () in shapes:
                number = shapes.index(())
                return self.make(("scale", places[number], places[1 - number]), shapes[1 - number])
            return self.make(("times",) + tuple(places), shapes[0])
        if e[0] in ("+", "-"):
            return self.make(({"+": "add", "-": "sub"}[e[0]],) + tuple(places), shapes[0])
        shape = {"dot": lambda: (), "sum": lambda: (), "product": lambda: (), "transform": lambda: shapes[0], "outer": lambda: shapes[0] + shapes[1],
                 "transpose": lambda: shapes[0][::-1], "mv": lambda: shapes[0][:1], "mm": lambda: (shapes[0][0], shapes[1][1])}[e[1]]()
        return self.make((e[1],) + tuple(places), shape)


class Refused(Exception):
    pass


class PlainTalk:
    """A whole conversation by points 27.7 to 27.9; without answers the honest ones are given, and kept in `told`.

    `result` and `place` are the result and the blame, for tables of all nodes.
    """

    def __init__(self, plan, tables, claimed, throws, answers=None):
        _, self.p, self.nodes, self.shapes, last = plan
        self.tables, self.throws = tables, list(throws)
        self.answers = None if answers is None else list(answers)
        self.told, self.agreements, self.degrees, self.thrown = [], [], 0, 0
        self.claims = [[] for _ in self.nodes]
        point = self.take(sum(self.shapes[last]))
        self.degrees += len(point)
        value = table_value(claimed, point, self.p)
        if claimed != tables[last] and value == table_value(tables[last], point, self.p):
            self.agreements.append(("outputs",))
        self.claims[last].append((point, value))
        try:
            for at in range(len(self.nodes) - 1, -1, -1):
                if self.claims[at]:
                    self.ask(at)
            self.result = ("believed",)
        except Refused as refused:
            self.result = ("refused",) + refused.args
        believed = self.result == ("believed",) and claimed != tables[last]
        self.place = (self.agreements + ["no place"])[0] if believed else None

    def take(self, many):
        found = [self.throws.pop(0) for _ in range(many)]
        self.thrown += many
        return found

    def answer(self, honest):
        sent = honest if self.answers is None else self.answers.pop(0)
        self.told.append(sent)
        return sent

    def fits(self, sent, many):
        return len(sent) == many and all(0 <= number < self.p for number in sent)

    def rounds(self, refused, noted, summand, many, degree, claim):
        """The throws and the claim behind the rounds of a sum over the corners."""
        thrown = []
        for k in range(many):
            rests = list(product((0, 1), repeat=many - k - 1))
            honest = [sum(summand(thrown + [t] + list(rest)) for rest in rests) % self.p for t in range(degree + 1)]
            sent = self.answer(honest)
            if not self.fits(sent, degree + 1) or (sent[0] + sent[1] - claim) % self.p:
                raise Refused(*refused, k)
            thrown += self.take(1)
            if agreement(sent, honest, thrown[-1], self.p):
                self.agreements.append(noted + (k,))
            claim = poly_value(sent, thrown[-1], self.p)
        self.degrees += many * degree
        return thrown, claim

    def join(self, at):
        points = [point for point, _ in self.claims[at]]
        values = [value for _, value in self.claims[at]]
        right = [table_value(self.tables[at], point, self.p) for point in points]
        mix, = self.take(1)
        if values != right and mixed_value(values, mix, self.p) == mixed_value(right, mix, self.p):
            self.agreements.append(("mix", at))
        self.degrees += len(points) - 1

        def summand(point):
            return table_value(self.tables[at], point, self.p) * mixed_near(points, mix, point, self.p)

        thrown, claim = self.rounds((at, "join"), ("join", at), summand, len(points[0]), 2, mixed_value(values, mix, self.p))
        sent = self.answer([table_value(self.tables[at], thrown, self.p)])
        if not self.fits(sent, 1) or (mixed_near(points, mix, thrown, self.p) * sent[0] - claim) % self.p:
            raise Refused(at, "join", "end")
        return thrown, sent[0]

    def ask(self, at):
        point, value = self.claims[at][0] if len(self.claims[at]) == 1 else self.join(at)
        word, operands = self.nodes[at][0], self.nodes[at][1:]
        if word in ("input", "number"):
            if table_value(self.tables[at], point, self.p) != value:
                raise Refused(at, word)
        elif word == "product":
            self.ask_levels(at, operands[0], value)
        else:
            getattr(self, "ask_" + word, self.ask_product)(at, word, operands, point, value)

    def values(self, at, stage, operands, points, told, claim):
        """The values of the operands at points, of which `told` makes the claim."""
        sent = self.answer([table_value(self.tables[operand], point, self.p) for operand, point in zip(operands, points)])
        if not self.fits(sent, len(points)) or (told(*sent) - claim) % self.p:
            raise Refused(at, stage, "values")
        for operand, point, value in zip(operands, points, sent):
            self.claims[operand].append((point, value))

    def ask_add(self, at, word, operands, point, value):
        self.values(at, 0, operands, [point, point], lambda u, v: u + v, value)

    def ask_sub(self, at, word, operands, point, value):
        self.values(at, 0, operands, [point, point], lambda u, v: u - v, value)

    def ask_scale(self, at, word, operands, point, value):
        self.values(at, 0, operands, [[], point], lambda u, v: u * v, value)

    def ask_outer(self, at, word, operands, point, value):
        rows = self.shapes[operands[0]][0]
        self.values(at, 0, operands, [point[:rows], point[rows:]], lambda u, v: u * v, value)

    def ask_transpose(self, at, word, operands, point, value):
        # The point has its row part first, which is the column part of the operand.
        rows = self.shapes[at][0]
        self.claims[operands[0]].append((point[rows:] + point[:rows], value))

    def ask_sum(self, at, word, operands, point, value):
        x, = operands
        many = sum(self.shapes[x])
        self.claims[x].append(self.rounds((at, 0), ("round", at, 0), lambda c: table_value(self.tables[x], c, self.p), many, 1, value))

    def ask_times(self, at, word, operands, point, value):
        x, y = [self.tables[operand] for operand in operands]

        def summand(c):
            return nearness(point, c, self.p) * table_value(x, c, self.p) * table_value(y, c, self.p)

        thrown, claim = self.rounds((at, 0), ("round", at, 0), summand, len(point), 3, value)
        self.values(at, 0, operands, [thrown, thrown], lambda u, v: nearness(point, thrown, self.p) * u * v, claim)

    def ask_product(self, at, word, operands, point, value):
        """The inner sum of "dot", "mm" and "mv"."""
        x, y = operands
        rows = {"dot": 0}.get(word, self.shapes[x][0])
        inner = self.shapes[x][-1]

        def summand(c):
            return table_value(self.tables[x], point[:rows] + c, self.p) * table_value(self.tables[y], c + point[rows:], self.p)

        thrown, claim = self.rounds((at, 0), ("round", at, 0), summand, inner, 2, value)
        self.values(at, 0, operands, [point[:rows] + thrown, thrown + point[rows:]], lambda u, v: u * v, claim)

    def ask_transform(self, at, word, operands, point, value):
        x, = operands

        def signed(c):
            found = 1
            for here, there in zip(point, c):
                found *= 1 - 2 * here * there
            return found

        thrown, claim = self.rounds((at, 0), ("round", at, 0), lambda c: table_value(self.tables[x], c, self.p) * signed(c), len(point), 2, value)
        self.values(at, 0, operands, [thrown], lambda u: u * signed(thrown), claim)

    def ask_levels(self, at, x, claim):
        p, point = self.p, []
        for level in range(self.shapes[x][0]):
            following = self.level(self.tables[x], level + 1)

            def summand(c):
                return nearness(point, c, p) * table_value(following, [0] + c, p) * table_value(following, [1] + c, p)

            thrown, claim = self.rounds((at, level), ("round", at, level), summand, level, 3, claim)
            honest = [table_value(following, [bit] + thrown, p) for bit in (0, 1)]
            sent = self.answer(honest)
            if not self.fits(sent, 2) or (nearness(point, thrown, p) * sent[0] * sent[1] - claim) % p:
                raise Refused(at, level, "values")
            t, = self.take(1)
            self.degrees += 1
            if agreement(sent, honest, t, p):
                self.agreements.append(("line", at, level))
            point, claim = [t] + thrown, poly_value(sent, t, p)
        self.claims[x].append((point, claim))

    def level(self, table, level):
        """The table of 2^level products of neighbouring entries."""
        many = len(table) // 2 ** level
        found = []
        for at in range(2 ** level):
            entry = 1
            for other in table[at * many:(at + 1) * many]:
                entry = entry * other % self.p
            found.append(entry)
        return found
