"""The trees of programs and their written form (points 14.2 and 14.6)."""

# How tightly an expression binds; LOOSE are those that stand only where a whole expression stands.
LOOSE = 0
NOT = 3
EQUAL = 4
SIGNED = 8
SINGLE = 9

OPERATORS = {"or": 1, "and": 2, "==": 4, "+": 5, "-": 5, "*": 6}
OTHERS = {"not": 3, "power": 7, "neg": 8, "num": 9, "name": 9, "call": 9, "array": 9, "at": 9}
LOOPS = ("sum", "product", "each")


def inner_parts(e):
    """The expressions directly in an expression, which are not copied."""
    word = e[0]
    if word in OPERATORS:
        return [e[1], e[2]]
    if word == "call":
        return list(e[2])
    if word == "array":
        return list(e[1])
    if word == "at" or word == "if":
        return list(e[1:])
    if word == "neg" or word == "not" or word == "power":
        return [e[1]]
    if word in LOOPS:
        return [e[3]]
    if word == "repeat":
        return [e[3], e[4]]
    return []


def with_copies(e):
    """An equal expression that shares no list with the given one."""
    if e[0] == "call":
        return ("call", e[1], [with_copies(part) for part in e[2]])
    if e[0] == "array":
        return ("array", [with_copies(part) for part in e[1]])
    return tuple([with_copies(part) if isinstance(part, tuple) else part for part in e])


def parts_of(e):
    """The expressions directly in an expression, in the order of the text."""
    return [with_copies(part) for part in inner_parts(e)]


def index_value(e, loops):
    """The integer that an index means for these loop variables; None if it contains something else."""
    if e[0] == "num":
        return e[1]
    if e[0] == "name":
        return loops.get(e[1])
    if e[0] != "+" and e[0] != "-" and e[0] != "*":
        return None
    left = index_value(e[1], loops)
    right = index_value(e[2], loops)
    if left is None or right is None:
        return None
    if e[0] == "+":
        return left + right
    return left - right if e[0] == "-" else left * right


def tightness(e):
    """How tightly an expression binds where it is an operand."""
    if e[0] in OPERATORS:
        return OPERATORS[e[0]]
    return OTHERS.get(e[0], LOOSE)


def guarded(text, e, least):
    """The text of an operand, in parentheses if the operand does not bind at least so tightly."""
    return text if tightness(e) >= least else f"({text})"


def write_operator(e):
    """The written form of an operator with two operands."""
    sign, left, right = e
    level = OPERATORS[sign]
    # Operators of one level group to the left, but "==" does not group at all.
    first = guarded(write_expression(left), left, level + 1 if level == EQUAL else level)
    second = guarded(write_expression(right), right, level + 1)
    return f"{first} {sign} {second}"


def write_list(expressions):
    """The written form of the expressions of a call or an array."""
    return ", ".join([write_expression(part) for part in expressions])


def write_single(e):
    """The written form of what may stand in front of a place, or is one."""
    if e[0] == "call":
        return f"{e[1]}({write_list(e[2])})"
    if e[0] == "array":
        return f"[{write_list(e[1])}]"
    if e[0] == "at":
        place = guarded(write_expression(e[1]), e[1], SINGLE)
        return f"{place}[{write_expression(e[2])}]"
    return str(e[1])


def write_prefixed(e):
    """The written form of "not", "-" and a power."""
    text = write_expression(e[1])
    if e[0] == "not":
        return f"not {guarded(text, e[1], NOT)}"
    text = guarded(text, e[1], SIGNED)
    return f"-{text}" if e[0] == "neg" else f"{text} ^ {e[2]}"


def write_form(e):
    """The written form of the five forms that extend as far as possible."""
    if e[0] == "if":
        test, then, other = [write_expression(part) for part in e[1:]]
        return f"if {test} then {then} else {other}"
    if e[0] == "repeat":
        _, many, name, start, last = e
        return f"repeat {many} with {name} = {write_expression(start)}: {write_expression(last)}"
    word, name, many, last = e
    return f"{word} {name} < {many}: {write_expression(last)}"


def write_expression(e):
    """The written form of an expression."""
    if e[0] in OPERATORS:
        return write_operator(e)
    level = tightness(e)
    if level == SINGLE:
        return write_single(e)
    return write_form(e) if level == LOOSE else write_prefixed(e)


def write_cell(cell):
    """The written form of an input or a parameter."""
    name, size, _ = cell
    return name if size == 0 else f"{name}[{size}]"


def write_part(part):
    """The line of a let or a function."""
    if part[0] == "let":
        _, name, e, _ = part
        return f"let {name} = {write_expression(e)}\n"
    _, name, cells, e, _ = part
    told = ", ".join([write_cell(cell) for cell in cells])
    return f"function {name}({told}) = {write_expression(e)}\n"


def write_program(program):
    """The written form of a program."""
    _, p, inputs, parts, outputs = program
    lines = [f"field {p}\n"]
    lines += [f"input {write_cell(cell)}\n" for cell in inputs]
    lines += [write_part(part) for part in parts]
    lines += [f"output {write_expression(e)}\n" for e, _ in outputs]
    return "".join(lines)
