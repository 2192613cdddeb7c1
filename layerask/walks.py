"""Powers of matrices, and walks in graphs (points 26.6 to 26.10)."""

from layerask.asking import BELIEVED
from layerask.cubes import value_at
from layerask.errors import CircuitError, SizeError, TalkError
from layerask.field import are_numbers
from layerask.joining import JoinAnswerer, join_answers
from layerask.matrices import ProductAnswerer, ProductTurn, asked_pair, check_even_modulus, check_matrix
from layerask.matrices import multiplied, multiply, product_answers
from layerask.sums import SumAsker, honest_rounds, total
from layerask.tapes import Tape, asked_join, asked_rounds, check_dice, check_joining, first_agreement, has_parts
from layerask.tapes import has_polys, joining_answers

MOST_BITS = 6
MOST_CLOSED_BITS = 4
MOST_EXPONENT = 65535
ROUND_DEGREE = 2


def steps_of(exponent):
    """The steps by which a power is made, in their order."""
    found = []
    for at in range(exponent.bit_length() - 2, -1, -1):
        found.append("square")
        if (exponent >> at) & 1:
            found.append("times")
    return found


def powers_of(table, bits, exponent, p):
    """The matrix, and what is there behind each step."""
    found = [list(table)]
    for step in steps_of(exponent):
        last = found[-1]
        found.append(multiply(last, last if step == "square" else table, (bits, bits, bits), p))
    return found


def power(table, bits, exponent, p):
    """The table of the power of a matrix."""
    return powers_of(table, bits, exponent, p)[-1]


def joining_throws(bits):
    """The number of the throws of a joining: the mix and those of its rounds."""
    return 1 + 2 * bits


def kept_claims(exponent):
    """How many claims about the matrix are kept."""
    return steps_of(exponent).count("times")


def walk_throws(bits, exponent, whole):
    """The number of the throws of a conversation about a power."""
    steps = steps_of(exponent)
    many = bits * len(steps) + joining_throws(bits) * steps.count("square")
    if kept_claims(exponent) > 0:
        many += joining_throws(bits)
    return many + (2 * bits if whole else 0)


def walk_share(bits, exponent, whole):
    """The told share times p."""
    steps = steps_of(exponent)
    found = ROUND_DEGREE * bits * len(steps) + (1 + 4 * bits) * steps.count("square")
    if kept_claims(exponent) > 0:
        found += kept_claims(exponent) + 4 * bits
    return found + (2 * bits if whole else 0)


def corner(index, bits):
    """The bits of a row or a column."""
    return [(index >> at) & 1 for at in range(bits)]


def first_point(tape, claim, bits):
    """The point of a claim, which is thrown for a table."""
    if claim[0] == "table":
        return tape.next_throws(2 * bits)
    _, i, j, _ = claim
    return corner(i, bits) + corner(j, bits)


def step_answers(p, before, right, point, throws):
    """The answers to a step, and the points of its two claims."""
    bits = len(throws)
    answerer = ProductAnswerer(p, before, right, (bits, bits, bits), point)
    return product_answers(answerer, throws), [point[:bits] + throws, throws + point[bits:]]


def walk_answers(table, bits, exponent, claim, throws, p):
    """The honest answers of a conversation about a power."""
    states = powers_of(table, bits, exponent, p)
    steps = steps_of(exponent)
    tape = Tape(p, throws, [])
    point = first_point(tape, claim, bits)
    told = []
    kept = []
    for at in range(len(steps) - 1, -1, -1):
        before = states[at]
        if steps[at] == "times":
            pair, points = step_answers(p, before, table, point, tape.next_throws(bits))
            told.append(pair)
            point = points[0]
            kept.append(points[1])
        else:
            (polys, values), points = step_answers(p, before, before, point, tape.next_throws(bits))
            thrown = tape.next_throws(joining_throws(bits))
            told.append((polys, values, join_answers(JoinAnswerer(p, before, points), thrown)))
            point = thrown[1:]
    if len(kept) == 0:
        return told, None
    last = JoinAnswerer(p, table, kept + [point])
    return told, join_answers(last, tape.next_throws(joining_throws(bits)))


def check_claim(claim, bits, p):
    """Raises CircuitError if a claim does not fit the matrix."""
    if claim[0] == "table":
        check_matrix(claim[1], 2 * bits, p)
        return
    _, i, j, number = claim
    if not are_numbers([i, j], 2, 1 << bits) or not are_numbers([number], 1, p):
        raise CircuitError("entry")


def check_step(step, told, bits):
    """Raises TalkError if the answers to a step have another form."""
    many = 2 if step == "times" else 3
    if not has_parts(told, many) or not has_polys(told[0], bits):
        raise TalkError("answers")
    if step == "square":
        check_joining(told[2], 2 * bits)


def check_told(told, bits, exponent):
    """Raises TalkError if the answers have another form than those of a conversation about this power."""
    steps = steps_of(exponent)[::-1]
    if not has_parts(told, 2) or not isinstance(told[0], list) or len(told[0]) != len(steps):
        raise TalkError("answers")
    for step, of_step in zip(steps, told[0]):
        check_step(step, of_step, bits)
    if kept_claims(exponent) > 0:
        check_joining(told[1], 2 * bits)
    elif told[1] is not None:
        raise TalkError("answers")


def check_walk(table, bits, exponent, claim, throws, told, p):
    """Raises the errors of a conversation about a power."""
    check_even_modulus(p)
    if bits > MOST_BITS:
        raise SizeError("matrix")
    if exponent < 1 or exponent > MOST_EXPONENT:
        raise SizeError("exponent")
    check_matrix(table, 2 * bits, p)
    check_claim(claim, bits, p)
    check_dice(throws, walk_throws(bits, exponent, claim[0] == "table"), p)
    check_told(told, bits, exponent)


def told_list(told):
    """The answers about a power, one behind the other."""
    found = []
    for of_step in told[0]:
        found += of_step[0] + [of_step[1]]
        # Only a "square" has a joining.
        if len(of_step) == 3:
            found += joining_answers(of_step[2])
    return found if told[1] is None else found + joining_answers(told[1])


class Walk:
    """The asker of a claim about a power."""

    def __init__(self, tape, bits, claim):
        self.tape = tape
        self._bits = bits
        # The claims about the matrix that are kept.
        self._points = []
        self._kept = []
        self.point = first_point(tape, claim, bits)
        if claim[0] == "table":
            self.number = value_at(claim[1], self.point, tape.p)
            tape.note(("claim",), claim[1], self.number)
        else:
            self.number = claim[3]

    def ask_step(self, at, step):
        """Asks a step; tells whether every answer fits."""
        turn = ProductTurn(self.tape.p, (self._bits, self._bits, self._bits), self.point, self.number)
        if not asked_pair(self.tape, turn, (at,)):
            return False
        if step == "square":
            return self._join(turn.points, turn.claims, (at, "join"), (at,))
        self.point, other_point = turn.points
        self.number, other_number = turn.claims
        self._points.append(other_point)
        self._kept.append(other_number)
        return True

    def ask_last(self):
        """Joins the kept claims and the last one; tells whether every answer fits."""
        if len(self._kept) == 0:
            return True
        return self._join(self._points + [self.point], self._kept + [self.number], ("last",), ("last",))

    def _join(self, points, claims, refused, place):
        left = asked_join(self.tape, points, claims, refused, place)
        if left is not None:
            self.point, self.number = left
        return left is not None


def asked_walk(table, bits, exponent, claim, throws, told, p):
    """The tape of a whole conversation that is not checked."""
    tape = Tape(p, throws, told_list(told))
    walk = Walk(tape, bits, claim)
    for at, step in enumerate(steps_of(exponent)[::-1]):
        if not walk.ask_step(at, step):
            return tape
    if walk.ask_last():
        tape.compare(walk.number, value_at(table, walk.point, p), ("matrix",))
        tape.believe()
    return tape


def judge_walk(table, bits, exponent, claim, throws, told, p):
    """The result of a whole conversation about a power."""
    check_walk(table, bits, exponent, claim, throws, told, p)
    return asked_walk(table, bits, exponent, claim, throws, told, p).result


def true_claim(table, bits, exponent, claim, p):
    """The claim as it is true."""
    found = power(table, bits, exponent, p)
    if claim[0] == "table":
        return ("table", found)
    _, i, j, _ = claim
    return ("entry", i, j, found[i + (j << bits)])


def blame_walk(table, bits, exponent, claim, throws, told, p):
    """The blame, or None if the claim is right or not believed."""
    check_walk(table, bits, exponent, claim, throws, told, p)
    tape = asked_walk(table, bits, exponent, claim, throws, told, p)
    true = true_claim(table, bits, exponent, claim, p)
    if tape.result != BELIEVED or claim == true:
        return None
    right = walk_answers(table, bits, exponent, claim, throws, p)
    return first_agreement(tape.trace, asked_walk(table, bits, exponent, true, throws, right, p).trace)


def closed_terms(table, bits):
    """The sum of the closed walks of three steps, over the corners of a row i, a row j and a row k."""
    many = 1 << bits
    of_j_k = [entry for entry in table for _ in range(many)]
    of_k_i = [table[k + (i << bits)] for k in range(many) for _ in range(many) for i in range(many)]
    return [[table * many, of_j_k, of_k_i]]


def closed_walks(table, bits, p):
    """The number of the closed walks of three steps."""
    return total(closed_terms(table, bits), p)


def closed_throws(bits):
    """The number of the throws of a conversation about the closed walks."""
    return 3 * bits + joining_throws(bits)


def closed_share(bits):
    """The told share times p."""
    return 10 * bits + 2


def closed_points(thrown, bits):
    """The points of the three claims about the matrix."""
    i, j, k = thrown[:bits], thrown[bits:2 * bits], thrown[2 * bits:]
    return [i + j, j + k, k + i]


def closed_answers(table, bits, throws, p):
    """The honest answers of a conversation about the closed walks."""
    thrown = throws[:3 * bits]
    polys, left = honest_rounds(closed_terms(table, bits), ROUND_DEGREE, thrown, p)
    answerer = JoinAnswerer(p, table, closed_points(thrown, bits))
    return polys, [entries[0] for entries in left[0]], join_answers(answerer, throws[3 * bits:])


def check_closed(table, bits, number, throws, told, p):
    """Raises the errors of a conversation about the closed walks."""
    check_even_modulus(p)
    if bits > MOST_CLOSED_BITS:
        raise SizeError("matrix")
    check_matrix(table, 2 * bits, p)
    if not are_numbers([number], 1, p):
        raise CircuitError("number")
    check_dice(throws, closed_throws(bits), p)
    if not has_parts(told, 3) or not has_polys(told[0], 3 * bits):
        raise TalkError("answers")
    check_joining(told[2], 2 * bits)


def asked_values(tape, sums):
    """Takes the three values behind the rounds; None if they do not fit."""
    sent = tape.next_answer()
    if not are_numbers(sent, 3, tape.p) or multiplied(sent, tape.p) != sums.claim:
        tape.refuse(("values",))
        return None
    return sent


def asked_closed(table, bits, number, throws, told, p):
    """The tape of a whole conversation that is not checked."""
    polys, values, joining = told
    tape = Tape(p, throws, polys + [values] + joining_answers(joining))
    sums = SumAsker(p, number, [ROUND_DEGREE] * (3 * bits))
    if not asked_rounds(tape, sums, (), ("round",)):
        return tape
    claims = asked_values(tape, sums)
    if claims is None:
        return tape
    left = asked_join(tape, closed_points(sums.throws, bits), claims, ("join",), ())
    if left is not None:
        point, claim = left
        tape.compare(claim, value_at(table, point, p), ("matrix",))
        tape.believe()
    return tape


def judge_closed(table, bits, number, throws, told, p):
    """The result of a whole conversation about the closed walks."""
    check_closed(table, bits, number, throws, told, p)
    return asked_closed(table, bits, number, throws, told, p).result


def blame_closed(table, bits, number, throws, told, p):
    """The blame, or None if the number is right or not believed."""
    check_closed(table, bits, number, throws, told, p)
    tape = asked_closed(table, bits, number, throws, told, p)
    true = closed_walks(table, bits, p)
    if tape.result != BELIEVED or number == true:
        return None
    right = closed_answers(table, bits, throws, p)
    return first_agreement(tape.trace, asked_closed(table, bits, true, throws, right, p).trace)
