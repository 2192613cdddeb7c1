"""From the texts of large expressions to their trees (points 27.2 and 27.3)."""

from layerask.field import GREATEST_MODULUS
from layerask.parsing import Reader

MOST_INPUTS = 40
MOST_LETS = 40
MOST_BITS = 8

# How many numbers the shape of an input has.
SHAPES = {"number": 0, "vector": 1, "matrix": 2}

# How many arguments a call has; two of the names are words of the language.
ARGUMENTS = {"dot": 2, "mm": 2, "mv": 2, "outer": 2, "transpose": 1, "transform": 1}
WORD_ARGUMENTS = 1


def read_call(reader, name, many):
    """A call, behind its name."""
    reader.enter("(")
    found = [read_sum(reader)]
    while len(found) < many:
        reader.take(",")
        found.append(read_sum(reader))
    reader.take(")")
    reader.leave()
    return ("call", name, found)


def read_name(reader):
    """A name, or a call that begins with one."""
    name = reader.take_any()
    if name in ARGUMENTS and reader.ahead() == "(":
        return read_call(reader, name, ARGUMENTS[name])
    return ("name", name)


def read_factor(reader):
    """A number, a name, a call, a negative factor, or a sum in parentheses."""
    if reader.is_next("number"):
        return ("num", reader.take_any())
    if reader.is_next("name"):
        return read_name(reader)
    if reader.ahead() == "sum" or reader.ahead() == "product":
        return read_call(reader, reader.take_any(), WORD_ARGUMENTS)
    if reader.ahead() == "-":
        reader.enter("-")
        e = ("neg", read_factor(reader))
        reader.leave()
        return e
    reader.enter("(")
    e = read_sum(reader)
    reader.take(")")
    reader.leave()
    return e


def read_term(reader):
    """Factors with "*" between them."""
    e = read_factor(reader)
    while reader.ahead() == "*":
        reader.count_joined()
        reader.take("*")
        e = ("*", e, read_factor(reader))
    return e


def read_sum(reader):
    """Terms with "+" and "-" between them."""
    e = read_term(reader)
    while reader.ahead() == "+" or reader.ahead() == "-":
        reader.count_joined()
        sign = reader.take_any()
        e = (sign, e, read_term(reader))
    return e


def read_whole(reader):
    """An expression that is not in another one."""
    reader.begin()
    return read_sum(reader)


def read_inputs(reader):
    """The inputs of a program."""
    found = []
    while reader.is_next("name") and reader.ahead() in SHAPES:
        reader.check(len(found) < MOST_INPUTS)
        line = reader.line_ahead()
        many = SHAPES[reader.take_any()]
        name = reader.take_name()
        found.append((name, tuple([reader.take_number(0, MOST_BITS) for _ in range(many)]), line))
    return found


def read_lets(reader):
    """The lets of a program."""
    found = []
    while reader.ahead() == "let":
        reader.check(len(found) < MOST_LETS)
        line = reader.line_ahead()
        reader.take("let")
        name = reader.take_name()
        reader.take("=")
        found.append((name, read_whole(reader), line))
    return found


def parse_large(text):
    """The program of a text."""
    reader = Reader(text)
    reader.take("field")
    p = reader.take_number(2, GREATEST_MODULUS)
    inputs = read_inputs(reader)
    lets = read_lets(reader)
    line = reader.line_ahead()
    reader.take("claim")
    e = read_whole(reader)
    reader.check(reader.is_next("end"))
    return ("large", p, inputs, lets, (e, line))
