"""Program texts with tables (points 23.1 to 23.4)."""

from layerask.errors import ProgramError, TextError
from layerask.field import inverse, is_prime
from layerask.parsing import parse_program
from layerask.polys import differences
from layerask.tokens import tokenize

MOST_ENTRIES = 32
PARAMETER = "x"


def coefficients(entries, p):
    """The coefficients of the polynomial that has the entries as its values at 0, 1, 2 and so on."""
    found = [0] * len(entries)
    # The polynomial of the k-th difference: the product of x - j for all j below k, divided by k!.
    basis = [1]
    for k, difference in enumerate(differences(entries, p)):
        for at, number in enumerate(basis):
            found[at] = (found[at] + difference * number) % p
        if k + 1 < len(entries):
            basis = next_basis(basis, k, p)
    return found


def next_basis(basis, k, p):
    """The coefficients of a polynomial times x - k, divided by k + 1."""
    part = inverse(k + 1, p)
    raised = [0] + basis
    lowered = [k * number for number in basis] + [0]
    return [(high - low) * part % p for high, low in zip(raised, lowered)]


def sum_of(terms):
    """The sum of terms, split in the middle."""
    if len(terms) == 1:
        return terms[0]
    middle = (len(terms) + 1) // 2
    return ("+", sum_of(terms[:middle]), sum_of(terms[middle:]))


def picking(entries, p):
    """The expression of the function of a table."""
    terms = []
    for k, number in enumerate(coefficients(entries, p)):
        terms.append(("*", ("num", number), ("power", ("name", PARAMETER), k)))
    return sum_of(terms)


def is_table(line):
    """Whether a line of a text is a table."""
    words = [word for word in line.split(" ") if word != ""]
    return len(words) > 0 and words[0] == "table"


def line_tokens(text, line):
    """The tokens of a part of a line of a text, without the end behind them."""
    try:
        return tokenize(text)[:-1]
    except TextError:
        raise TextError(line) from None


def read_table(text, line):
    """The table of a line."""
    tokens = line_tokens(text.partition("table")[2], line)
    if len(tokens) < 3 or len(tokens) - 2 > MOST_ENTRIES:
        raise TextError(line)
    if tokens[0][0] != "name" or tokens[1][1] != "=":
        raise TextError(line)
    for kind, _, _ in tokens[2:]:
        if kind != "number":
            raise TextError(line)
    return (tokens[0][1], [number for _, number, _ in tokens[2:]], line)


def read_tables(text):
    """The pair of the tables of a text and the text with empty lines in their place."""
    found = []
    left = []
    for at, line in enumerate(text.split("\n")):
        if is_table(line):
            found.append(read_table(line, at + 1))
            left.append("")
        else:
            left.append(line)
    return found, "\n".join(left)


def check_tables(tables, p):
    """Raises ProgramError if tables do not fit the modulus."""
    if len(tables) > 0 and not is_prime(p):
        raise ProgramError("prime", 1)
    for _, entries, line in tables:
        for number in entries:
            if number >= p:
                raise ProgramError("number", line)
        if len(entries) > p:
            raise ProgramError("table", line)


def parse_with_tables(text):
    """The program of a text with tables."""
    tables, left = read_tables(text)
    word, p, inputs, parts, outputs = parse_program(left)
    check_tables(tables, p)
    functions = []
    for name, entries, line in tables:
        functions.append(("function", name, [(PARAMETER, 0, line)], picking(entries, p), line))
    return (word, p, inputs, functions + parts, outputs)
