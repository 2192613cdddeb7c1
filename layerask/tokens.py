"""The tokens of program texts (point 14.1)."""

from layerask.errors import TextError

WORDS = ("field", "input", "function", "let", "output", "if", "then", "else", "sum", "product", "each", "repeat",
         "with", "and", "or", "not")
DIGITS = "0123456789"
LETTERS = "abcdefghijklmnopqrstuvwxyzABCDEFGHIJKLMNOPQRSTUVWXYZ"
RUN = "0123456789abcdefghijklmnopqrstuvwxyzABCDEFGHIJKLMNOPQRSTUVWXYZ_"
SIGNS = ("(", ")", "[", "]", ",", "=", "<", ":", "+", "-", "*", "^")
MOST_LETTERS = 16
MOST_DIGITS = 10


def is_word(text):
    """Whether a text is a word of the language."""
    return text in WORDS


def is_numeral(text):
    """Whether a text is a number of 1 to 10 digits, without a leading zero unless it is 0 itself."""
    if len(text) == 0 or len(text) > MOST_DIGITS:
        return False
    if text[0] == "0" and len(text) > 1:
        return False
    return all(char in DIGITS for char in text)


def is_name(run):
    """Whether a run of letters, digits and underscores is a name."""
    return run[0] in LETTERS and len(run) <= MOST_LETTERS and not is_word(run)


def run_token(run, line):
    """The token of a run of letters, digits and underscores."""
    if is_word(run):
        return ("word", run, line)
    if is_name(run):
        return ("name", run, line)
    if is_numeral(run):
        return ("number", int(run), line)
    raise TextError(line)


def sign_token(text, at, line):
    """The token of the sign at a place."""
    if text.startswith("==", at):
        return ("sign", "==", line)
    if text[at] not in SIGNS:
        raise TextError(line)
    return ("sign", text[at], line)


def run_end(text, start):
    """The place behind a run."""
    at = start
    while at < len(text) and text[at] in RUN:
        at += 1
    return at


def line_end(text, start):
    """The place of the next newline, or the end of the text."""
    at = text.find("\n", start)
    return len(text) if at < 0 else at


def tokenize(text):
    """The tokens of a text, and the end behind them."""
    found = []
    line = 1
    at = 0
    while at < len(text):
        char = text[at]
        if char == "#":
            at = line_end(text, at)
        elif char in RUN:
            end = run_end(text, at)
            found.append(run_token(text[at:end], line))
            at = end
        elif char == " " or char == "\n":
            line += 1 if char == "\n" else 0
            at += 1
        else:
            token = sign_token(text, at, line)
            found.append(token)
            at += len(token[1])
    found.append(("end", "", line))
    return found
