"""Conversations as texts (point 13)."""

from layerask.errors import TextError
from layerask.tokens import is_numeral

MOST_PIECES = 20000


def numbers_line(word, numbers):
    """A line of a word and numbers."""
    return " ".join([word] + [str(number) for number in numbers])


def write_talk(throws, answers):
    """The text of the throws and the answers of a conversation."""
    lines = ["talk", numbers_line("throws", throws)]
    for polys, line in answers:
        lines.append("layer")
        for poly in polys:
            lines.append(numbers_line("poly", poly))
        lines.append(numbers_line("line", line))
    lines.append("end")
    return "".join([f"{line}\n" for line in lines])


class Pieces:
    """The pieces of a text that is cut at its newlines, read from the first one on."""

    def __init__(self, pieces):
        self._pieces = list(pieces)
        self._at = 0

    def first_word(self):
        """The part of the next piece before its first space; nothing is left behind the last piece."""
        if self._at == len(self._pieces):
            return None
        return self._pieces[self._at].split(" ")[0]

    def take_line(self, expected):
        """Takes a piece that must be just this line."""
        if self._at == len(self._pieces) or self._pieces[self._at] != expected:
            raise TextError(self._at + 1)
        self._at += 1

    def take_numbers(self, word):
        """Takes a piece that must be this word and numbers; returns the numbers."""
        if self.first_word() != word:
            raise TextError(self._at + 1)
        numerals = self._pieces[self._at].split(" ")[1:]
        for numeral in numerals:
            if not is_numeral(numeral):
                raise TextError(self._at + 1)
        self._at += 1
        return [int(numeral) for numeral in numerals]

    def take_end(self):
        """Nothing may be left."""
        if self._at < len(self._pieces):
            raise TextError(self._at + 1)


def read_layer(pieces):
    """The answers to a layer."""
    pieces.take_line("layer")
    polys = []
    while pieces.first_word() == "poly":
        polys.append(pieces.take_numbers("poly"))
    return polys, pieces.take_numbers("line")


def read_talk(text):
    """The pair of the throws and the answers of a text."""
    cut = text.split("\n")
    if len(cut) > MOST_PIECES:
        raise TextError(MOST_PIECES + 1)
    pieces = Pieces(cut)
    pieces.take_line("talk")
    throws = pieces.take_numbers("throws")
    answers = []
    while pieces.first_word() == "layer":
        answers.append(read_layer(pieces))
    pieces.take_line("end")
    pieces.take_line("")
    pieces.take_end()
    return throws, answers
