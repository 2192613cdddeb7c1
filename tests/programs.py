"""Programs for tests, and plain calculations about them, which follow the definitions word by word."""

from itertools import count

from plain import Numbers

OPERATORS = ("+", "-", "*", "==", "and", "or")
LOOPS = ("sum", "product", "each")


def num(n):
    return ("num", n)


def name(text):
    return ("name", text)


def program(p, inputs=(), parts=(), outputs=(("num", 0),)):
    """A program with lines that are counted from 2; inputs are pairs of a name and a size."""
    lines = count(2)
    cells = [(word, size, next(lines)) for word, size in inputs]
    told = []
    for part in parts:
        line = next(lines)
        if part[0] == "let":
            told.append(part + (line,))
        else:
            told.append(("function", part[1], [(word, size, line) for word, size in part[2]], part[3], line))
    return ("program", p, cells, told, [(e, next(lines)) for e in outputs])


def chained(e, many, sign="+"):
    """An expression with so many operators behind it, grouped to the left."""
    for _ in range(many):
        e = (sign, e, ("num", 0))
    return e


def inner(e):
    """The expressions directly in an expression."""
    if e[0] in OPERATORS or e[0] == "at":
        return [e[1], e[2]]
    if e[0] in ("neg", "not", "power"):
        return [e[1]]
    if e[0] == "if":
        return [e[1], e[2], e[3]]
    if e[0] in LOOPS:
        return [e[3]]
    if e[0] == "repeat":
        return [e[3], e[4]]
    return {"call": lambda: list(e[2]), "array": lambda: list(e[1])}.get(e[0], lambda: [])()


def functions_of(tree):
    return {part[1]: part for part in tree[3] if part[0] == "function"}


def plain_depth(e, functions):
    """Point 15.5, for valid programs."""
    depths = [plain_depth(part, functions) for part in inner(e)]
    if e[0] == "call":
        depths.append(plain_depth(functions[e[1]][3], functions))
    return 1 + max(depths, default=0)


def plain_steps(e, functions):
    """Point 15.4, for valid programs."""
    if e[0] in LOOPS:
        return 1 + e[2] * plain_steps(e[3], functions)
    if e[0] == "repeat":
        return 1 + plain_steps(e[3], functions) + e[1] * plain_steps(e[4], functions)
    if e[0] == "at":
        return 1 + plain_steps(e[1], functions)
    steps = 1 + sum(plain_steps(part, functions) for part in inner(e))
    return steps + (plain_steps(functions[e[1]][3], functions) if e[0] == "call" else 0)


def all_steps(tree):
    functions = functions_of(tree)
    parts = [part[-2] for part in tree[3]] + [e for e, _ in tree[4]]
    return sum(plain_steps(e, functions) for e in parts)


class Meaning:
    """Point 16, for valid programs."""

    def __init__(self, tree, numbers):
        self.p, self.functions = tree[1], functions_of(tree)
        row, values = list(numbers), {}
        for word, size, _ in tree[2]:
            values[word] = [row.pop(0) for _ in range(size)] if size else row.pop(0)
        for part in tree[3]:
            if part[0] == "let":
                values[part[1]] = self.of(part[2], values, {})
        self.outputs = []
        for e, _ in tree[4]:
            found = self.of(e, values, {})
            self.outputs += found if isinstance(found, list) else [found]

    def index(self, e, loops):
        if e[0] == "num":
            return e[1]
        if e[0] == "name":
            return loops[e[1]]
        left, right = self.index(e[1], loops), self.index(e[2], loops)
        return {"+": left + right, "-": left - right, "*": left * right}[e[0]]

    def turns(self, e, values, loops):
        found = []
        for k in range(e[2]):
            found.append(self.of(e[3], dict(values, **{e[1]: k % self.p}), dict(loops, **{e[1]: k})))
        return found

    def of(self, e, values, loops):
        p, word = self.p, e[0]
        if word == "num":
            return e[1]
        if word == "name":
            return values[e[1]]
        if word == "at":
            return self.of(e[1], values, loops)[self.index(e[2], loops)]
        if word in LOOPS:
            turns = self.turns(e, values, loops)
            if word == "sum":
                return sum(turns) % p
            result = 1
            for turn in turns:
                result = result * turn % p
            return turns if word == "each" else result
        if word == "repeat":
            found = self.of(e[3], values, loops)
            for _ in range(e[1]):
                found = self.of(e[4], dict(values, **{e[2]: found}), loops)
            return found
        parts = [self.of(part, values, loops) for part in inner(e)]
        return self.joined(e, parts)

    def joined(self, e, parts):
        p, word = self.p, e[0]
        if word == "call":
            _, _, cells, body, _ = self.functions[e[1]]
            return self.of(body, {cell[0]: part for cell, part in zip(cells, parts)}, {})
        if word == "array":
            return parts
        if word == "if":
            return parts[1] if parts[0] == 1 else parts[2]
        if word == "power":
            return pow(parts[0], e[2], p)
        if word == "not":
            return 1 - parts[0]
        if word == "and":
            return min(parts)
        if word == "or":
            return max(parts)
        if word == "==":
            return int(parts[0] == parts[1])
        return self.calculated(word, parts)

    def calculated(self, word, parts):
        p = self.p
        if word == "neg":
            return [-entry % p for entry in parts[0]] if isinstance(parts[0], list) else -parts[0] % p
        u, v = parts
        if isinstance(u, list) and isinstance(v, list):
            return [self.calculated(word, pair) for pair in zip(u, v)]
        if isinstance(u, list) or isinstance(v, list):
            array, number = (u, v) if isinstance(u, list) else (v, u)
            return [entry * number % p for entry in array]
        return {"+": u + v, "-": u - v, "*": u * v}[word] % p


def plain_meaning(tree, numbers):
    return Meaning(tree, numbers).outputs


class Sampler:
    """Valid programs that look thrown."""

    def __init__(self, seed, p, deep=3):
        self.numbers, self.p, self.deep = Numbers(seed), p, deep
        self.functions, self.fresh = [], count()

    def pick(self, things):
        return things[self.numbers.below(len(things))]

    def new(self, letter):
        return f"{letter}{next(self.fresh)}"

    def number(self, values, loops, deep):
        """An expression that is a number (not a flag)."""
        names = [word for word, kind in values.items() if kind == 0]
        arrays = [word for word, kind in values.items() if kind not in (0, "flag")]
        choice = self.numbers.below(14 if deep > 0 else 3)
        if choice == 0 and names:
            return name(self.pick(names))
        if choice == 1 and arrays:
            return self.place(self.pick(arrays), values, loops)
        if choice < 3:
            return num(self.numbers.below(min(self.p, 12)))
        deep -= 1
        if choice < 7:
            return (self.pick("+-*"), self.either(values, loops, deep), self.either(values, loops, deep))
        if choice == 7:
            return ("neg", self.either(values, loops, deep))
        if choice == 8:
            return ("power", self.either(values, loops, deep), self.numbers.below(6))
        if choice == 9:
            return ("if", self.flag(values, loops, deep), self.number(values, loops, deep), self.either(values, loops, deep))
        if choice == 10:
            return self.repeat(0, values, loops, deep)
        if choice == 11:
            return self.call(0, values, loops, deep)
        if choice == 12:
            array = self.array(3, values, loops, deep)
            return ("at", array, num(self.numbers.below(3)))
        return self.loop(self.pick(("sum", "product")), 1 + self.numbers.below(4), values, loops, deep)

    def place(self, word, values, loops):
        size = values[word]
        small = [(loop, many) for loop, many in loops.items() if many <= size]
        if small and self.numbers.below(3) > 0:
            loop, many = self.pick(small)
            index = self.pick([name(loop), ("+", name(loop), num(size - many)), ("-", num(size - 1), name(loop)),
                               ("-", ("*", num(2), name(loop)), name(loop))])
            return ("at", name(word), index)
        return ("at", name(word), num(self.numbers.below(size)))

    def either(self, values, loops, deep):
        if self.numbers.below(4) == 0:
            return self.flag(values, loops, deep)
        return self.number(values, loops, deep)

    def flag(self, values, loops, deep):
        names = [word for word, kind in values.items() if kind == "flag"]
        if names and self.numbers.below(3) == 0:
            return name(self.pick(names))
        choice = self.numbers.below(4) if deep > 0 else 0
        if choice == 0:
            return ("==", self.number(values, loops, deep - 1), self.either(values, loops, deep - 1))
        if choice == 1:
            return ("not", self.flag(values, loops, deep - 1))
        return (self.pick(("and", "or")), self.flag(values, loops, deep - 1), self.flag(values, loops, deep - 1))

    def array(self, size, values, loops, deep):
        names = [word for word, kind in values.items() if kind == size]
        choice = self.numbers.below(10 if deep > 0 else 3)
        if choice < 2 and names:
            return name(self.pick(names))
        if choice < 3 or deep <= 0:
            return ("array", [self.either(values, loops, min(deep - 1, 1)) for _ in range(size)])
        deep -= 1
        if choice == 3:
            return self.loop("each", size, values, loops, deep)
        if choice == 4:
            return (self.pick("+-"), self.array(size, values, loops, deep), self.array(size, values, loops, deep))
        if choice == 5:
            pair = [self.either(values, loops, deep), self.array(size, values, loops, deep)]
            return ("*",) + tuple(pair if self.numbers.below(2) else pair[::-1])
        if choice == 6:
            return ("neg", self.array(size, values, loops, deep))
        if choice == 7:
            return ("if", self.flag(values, loops, deep), self.array(size, values, loops, deep),
                    self.array(size, values, loops, deep))
        if choice == 8:
            return self.repeat(size, values, loops, deep)
        return self.call(size, values, loops, deep)

    def of(self, kind, values, loops, deep):
        if kind == 0:
            return self.either(values, loops, deep)
        return self.array(kind, values, loops, deep)

    def loop(self, word, many, values, loops, deep):
        variable = self.new("i")
        return (word, variable, many, self.either(dict(values, **{variable: 0}), dict(loops, **{variable: many}), deep))

    def repeat(self, size, values, loops, deep):
        held = self.new("x")
        start = self.of(size, values, loops, deep)
        last = self.of(size, dict(values, **{held: size}), loops, deep)
        return ("repeat", 1 + self.numbers.below(3), held, start, last)

    def call(self, size, values, loops, deep):
        fitting = [part for part in self.functions if part[2] == size]
        if not fitting:
            return self.of(size, values, loops, deep)
        word, sizes, _ = self.pick(fitting)
        return ("call", word, [self.of(kind, values, loops, deep) for kind in sizes])

    def program(self):
        inputs = [(self.new("a"), self.pick((0, 0, 1, 2, 3))) for _ in range(self.numbers.below(4))]
        values = dict(inputs)
        parts = []
        for _ in range(self.numbers.below(4)):
            if self.numbers.below(2):
                cells = [(self.new("u"), self.pick((0, 2, 3))) for _ in range(1 + self.numbers.below(3))]
                size = self.pick((0, 2, 3))
                word = self.new("f")
                parts.append(("function", word, cells, self.of(size, dict(cells), {}, self.deep)))
                self.functions.append((word, [kind for _, kind in cells], size))
            else:
                word, kind = self.new("v"), self.pick((0, 2, 3, "flag"))
                e = self.flag(values, {}, self.deep) if kind == "flag" else self.of(kind, values, {}, self.deep)
                parts.append(("let", word, e))
                values[word] = kind
        outputs = [self.of(self.pick((0, 0, 2)), values, {}, self.deep) for _ in range(1 + self.numbers.below(3))]
        return program(self.p, inputs, parts, outputs)


def sample_program(seed, p, deep=3):
    return Sampler(seed, p, deep).program()


def sample_numbers(tree, seed):
    many = sum(max(size, 1) for _, size, _ in tree[2])
    return Numbers(seed).many(many, tree[1])


def without_lines(tree):
    """A program without its lines, to compare what was written and read."""
    word, p, inputs, parts, outputs = tree
    told = []
    for part in parts:
        if part[0] == "function":
            part = part[:2] + ([cell[:2] for cell in part[2]],) + part[3:]
        told.append(part[:-1])
    return (word, p, [cell[:2] for cell in inputs], told, [e for e, _ in outputs])
