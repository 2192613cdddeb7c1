"""Conversations whose throws and answers are all there when they begin, and what came of them."""

from layerask.asking import BELIEVED
from layerask.errors import TalkError
from layerask.field import is_number
from layerask.joining import Join


class Tape:
    """The throws and the answers of a conversation, taken in their order; every answer is a list."""

    def __init__(self, p, throws, answers):
        self.p = p
        self.result = None
        # What was sent and then thrown about: its place, itself, and its value by the throw.
        self.trace = []
        self._throws = list(throws)
        self._answers = list(answers)
        self._thrown = 0
        self._answered = 0

    def next_throw(self):
        """The next throw."""
        self._thrown += 1
        return self._throws[self._thrown - 1]

    def next_throws(self, many):
        """The next throws."""
        self._thrown += many
        return self._throws[self._thrown - many:self._thrown]

    def next_answer(self):
        """The next answer."""
        self._answered += 1
        return self._answers[self._answered - 1]

    def note(self, place, told, worth):
        """Keeps what was told at a place, and its value by the throw."""
        self.trace.append((place, told, worth))

    def refuse(self, place):
        """Ends the conversation at a place at which something does not fit."""
        self.result = ("refused",) + place

    def compare(self, claim, true, place):
        """Ends the conversation if a claim that is compared is not true."""
        if self.result is None and claim != true:
            self.refuse(place)

    def believe(self):
        """Ends the conversation if nothing has ended it before."""
        if self.result is None:
            self.result = BELIEVED


def asked_rounds(tape, sums, refused, noted):
    """Asks the rounds of a sum; tells whether every answer fits. The number of the round ends both places."""
    while not sums.is_done():
        at = len(sums.throws)
        sent = tape.next_answer()
        if not sums.accept(sent):
            tape.refuse(refused + (at,))
            return False
        sums.throw(tape.next_throw())
        tape.note(noted + (at,), sent, sums.claim)
    return True


def asked_join(tape, points, claims, refused, place):
    """Joins claims; the pair of the new point and its claim, or None if an answer does not fit."""
    join = Join(tape.p, points, claims)
    join.throw(tape.next_throw())
    tape.note(("mix",) + place, claims, join.sums.claim)
    if not asked_rounds(tape, join.sums, refused, ("join",) + place):
        return None
    sent = tape.next_answer()
    if len(sent) != 1 or not join.answer_value(sent[0]):
        tape.refuse(refused + ("end",))
        return None
    return join.next_point, join.next_claim


def first_agreement(trace, honest):
    """The first place at which what was told differs from what is honest, but not in its value by the throw."""
    for (place, told, worth), (_, right, right_worth) in zip(trace, honest):
        if told != right and worth == right_worth:
            return place
    return None


def check_dice(throws, many, p):
    """Raises TalkError if throws are not so many numbers modulo p."""
    if len(throws) != many:
        raise TalkError("throws")
    for number in throws:
        if not is_number(number, p):
            raise TalkError("throw")


def has_parts(thing, many):
    """Whether a thing is a tuple of so many things."""
    return isinstance(thing, tuple) and len(thing) == many


def has_polys(thing, many):
    """Whether a thing is a list of so many polynomials."""
    return isinstance(thing, list) and len(thing) == many


def check_joining(pair, rounds):
    """Raises TalkError if answers to a joining are not a pair with as many polynomials as it has rounds."""
    if not has_parts(pair, 2) or not has_polys(pair[0], rounds):
        raise TalkError("answers")


def joining_answers(pair):
    """The answers to a joining, one behind the other."""
    polys, number = pair
    return polys + [[number]]
