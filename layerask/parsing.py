"""From program texts to trees (points 14.2 to 14.5)."""

from layerask.errors import TextError
from layerask.field import GREATEST_MODULUS
from layerask.tokens import tokenize
from layerask.trees import EQUAL, LOOPS, NOT, OPERATORS

MOST_CELLS = 40
MOST_PARTS = 40
MOST_OUTPUTS = 40
MOST_LISTED = 64
MOST_COUNT = 64
MOST_OPEN = 12
MOST_JOINED = 60

FORMS = ("if", "sum", "product", "each", "repeat")


class Reader:
    """The tokens of a text, read from the first one on, and what is open and joined so far."""

    def __init__(self, text):
        self._tokens = tokenize(text)
        self._at = 0
        self._opened = 0
        self._joined = 0

    def ahead(self):
        """The word, sign, name or number that comes next."""
        return self._tokens[self._at][1]

    def line_ahead(self):
        """The line of the token that comes next."""
        return self._tokens[self._at][2]

    def is_next(self, kind):
        """Whether a token of this kind comes next."""
        return self._tokens[self._at][0] == kind

    def check(self, holds):
        """Raises TextError with the line of the next token if something does not hold."""
        if not holds:
            raise TextError(self.line_ahead())

    def take(self, expected):
        """Takes a token that must be this word or sign."""
        self.check(self.ahead() == expected)
        self._at += 1

    def take_if(self, expected):
        """Takes the next token if it is this word or sign; tells whether it was."""
        if self.ahead() != expected:
            return False
        self._at += 1
        return True

    def take_any(self):
        """Takes the next token, whatever it is; returns its word, sign, name or number."""
        self._at += 1
        return self._tokens[self._at - 1][1]

    def take_name(self):
        """Takes a name."""
        self.check(self.is_next("name"))
        return self.take_any()

    def take_number(self, least, most):
        """Takes a number in a range."""
        self.check(self.is_next("number") and least <= self.ahead() <= most)
        return self.take_any()

    def begin(self):
        """Begins to read an expression that is not in another one."""
        self._joined = 0

    def count_joined(self):
        """Counts the next token as an operator or a place."""
        self.check(self._joined < MOST_JOINED)
        self._joined += 1

    def enter(self, expected):
        """Takes a token that opens something."""
        self.check(self.ahead() == expected and self._opened < MOST_OPEN)
        self._opened += 1
        self._at += 1

    def leave(self):
        """Something that was opened is over."""
        self._opened -= 1


def read_list(reader):
    """Expressions with commas between them."""
    found = [read_expression(reader)]
    while reader.ahead() == ",":
        reader.check(len(found) < MOST_LISTED)
        reader.take(",")
        found.append(read_expression(reader))
    return found


def read_closed_list(reader, first, last):
    """Expressions with commas between them, in parentheses or brackets."""
    reader.enter(first)
    found = read_list(reader)
    reader.take(last)
    reader.leave()
    return found


def read_single(reader):
    """A number, a name, a call, an array, or an expression in parentheses."""
    if reader.is_next("number"):
        return ("num", reader.take_any())
    if reader.is_next("name"):
        name = reader.take_any()
        if reader.ahead() == "(":
            return ("call", name, read_closed_list(reader, "(", ")"))
        return ("name", name)
    if reader.ahead() == "[":
        return ("array", read_closed_list(reader, "[", "]"))
    reader.enter("(")
    e = read_expression(reader)
    reader.take(")")
    reader.leave()
    return e


def read_signed(reader):
    """What may stand in front of "^"."""
    if reader.ahead() == "-":
        reader.enter("-")
        e = ("neg", read_signed(reader))
        reader.leave()
        return e
    e = read_single(reader)
    while reader.ahead() == "[":
        reader.count_joined()
        reader.enter("[")
        e = ("at", e, read_expression(reader))
        reader.take("]")
        reader.leave()
    return e


def read_power(reader):
    """A power, or what may stand in front of "^"."""
    e = read_signed(reader)
    if reader.take_if("^"):
        return ("power", e, reader.take_number(0, MOST_COUNT))
    return e


def read_not(reader):
    """The word "not" and its operand."""
    reader.enter("not")
    e = ("not", read_operators(reader, NOT))
    reader.leave()
    return e


def read_operators(reader, least):
    """Operands and operators between them that bind at least so tightly."""
    # The tightest operator that may follow; tighter ones were taken by the operand before.
    most = OPERATORS["*"]
    if least <= NOT and reader.ahead() == "not":
        left = read_not(reader)
        most = NOT - 1
    else:
        left = read_power(reader)
    while True:
        sign = reader.ahead()
        level = OPERATORS.get(sign, 0)
        if level < least or level > most:
            return left
        reader.count_joined()
        reader.take(sign)
        left = (sign, left, read_operators(reader, level + 1))
        most = level - 1 if level == EQUAL else level


def read_loop(reader, word):
    """A "sum", a "product" or an "each", behind its word."""
    name = reader.take_name()
    reader.take("<")
    many = reader.take_number(1, MOST_COUNT)
    reader.take(":")
    return (word, name, many, read_expression(reader))


def read_repeat(reader):
    """A "repeat", behind its word."""
    many = reader.take_number(1, MOST_COUNT)
    reader.take("with")
    name = reader.take_name()
    reader.take("=")
    start = read_expression(reader)
    reader.take(":")
    return ("repeat", many, name, start, read_expression(reader))


def read_if(reader):
    """An "if", behind its word."""
    test = read_expression(reader)
    reader.take("then")
    first = read_expression(reader)
    reader.take("else")
    return ("if", test, first, read_expression(reader))


def read_form(reader):
    """One of the five forms that extend as far as possible."""
    word = reader.ahead()
    reader.enter(word)
    if word in LOOPS:
        e = read_loop(reader, word)
    elif word == "repeat":
        e = read_repeat(reader)
    else:
        e = read_if(reader)
    reader.leave()
    return e


def read_expression(reader):
    """A whole expression."""
    if reader.ahead() in FORMS:
        return read_form(reader)
    return read_operators(reader, 1)


def read_whole(reader):
    """An expression that is not in another one."""
    reader.begin()
    return read_expression(reader)


def read_cell(reader):
    """An input or a parameter."""
    line = reader.line_ahead()
    name = reader.take_name()
    size = 0
    if reader.take_if("["):
        size = reader.take_number(1, MOST_COUNT)
        reader.take("]")
    return (name, size, line)


def read_part(reader):
    """A let or a function."""
    line = reader.line_ahead()
    if reader.take_if("let"):
        name = reader.take_name()
        reader.take("=")
        return ("let", name, read_whole(reader), line)
    reader.take("function")
    name = reader.take_name()
    reader.take("(")
    cells = [read_cell(reader)]
    while reader.take_if(","):
        cells.append(read_cell(reader))
    reader.take(")")
    reader.take("=")
    return ("function", name, cells, read_whole(reader), line)


def read_inputs(reader):
    """The inputs of a program."""
    found = []
    while reader.ahead() == "input":
        reader.check(len(found) < MOST_CELLS)
        reader.take("input")
        found.append(read_cell(reader))
    return found


def read_parts(reader):
    """The parts of a program."""
    found = []
    while reader.ahead() == "let" or reader.ahead() == "function":
        reader.check(len(found) < MOST_PARTS)
        found.append(read_part(reader))
    return found


def read_outputs(reader):
    """The outputs of a program, at least one."""
    found = []
    while len(found) == 0 or reader.ahead() == "output":
        reader.check(len(found) < MOST_OUTPUTS)
        line = reader.line_ahead()
        reader.take("output")
        found.append((read_whole(reader), line))
    return found


def parse_program(text):
    """The tree of a program."""
    reader = Reader(text)
    reader.take("field")
    p = reader.take_number(2, GREATEST_MODULUS)
    inputs = read_inputs(reader)
    parts = read_parts(reader)
    outputs = read_outputs(reader)
    reader.check(reader.is_next("end"))
    return ("program", p, inputs, parts, outputs)


def parse_expression(text):
    """The tree of a text that is one expression."""
    reader = Reader(text)
    e = read_whole(reader)
    reader.check(reader.is_next("end"))
    return e
