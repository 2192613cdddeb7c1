"""Conversations about large expressions (points 27.7 to 27.10)."""

from layerask.asking import BELIEVED
from layerask.cubes import point_table, value_at
from layerask.errors import CircuitError, TalkError
from layerask.field import are_numbers
from layerask.joining import JoinAnswerer, join_answers
from layerask.largenodes import operands, uses
from layerask.largestages import combined, degree_of, factor_at, operand_points, stages_of, terms_of, values_of
from layerask.largevalues import tables_of
from layerask.sums import SumAsker, honest_rounds
from layerask.tapes import Tape, asked_join, asked_rounds, check_dice, first_agreement

LEAST_MODULUS = 5
JOIN_DEGREE = 2


def node_counts(plan, at, claims):
    """The numbers of throws and answers, and the degrees, that a node with so many claims takes."""
    dims = sum(plan[3][at])
    word = plan[2][at][0]
    throws, answers, degrees = 0, 0, 0
    if claims > 1:
        throws, answers, degrees = dims + 1, dims + 1, claims - 1 + JOIN_DEGREE * dims
    for rounds in stages_of(plan, at):
        throws += rounds
        answers += rounds + (1 if values_of(word) > 0 else 0)
        degrees += rounds * degree_of(word)
        if word == "product":
            # The throw on the line through the two values.
            throws += 1
            degrees += 1
    return throws, answers, degrees


def large_counts(plan):
    """The number of the throws, that of the answers, and the told share times p."""
    _, _, nodes, shapes, last = plan
    throws = sum(shapes[last])
    answers = 0
    degrees = sum(shapes[last])
    for at, claims in enumerate(uses(nodes, last)):
        if claims > 0:
            more_throws, more_answers, more_degrees = node_counts(plan, at, claims)
            throws += more_throws
            answers += more_answers
            degrees += more_degrees
    return throws, answers, degrees


class LargeAsker:
    """The asker of the claim that a large expression has a certain table."""

    def __init__(self, plan, inputs, claimed, tape):
        _, _, self._nodes, self._shapes, last = plan
        self._plan = plan
        self._inputs = inputs
        self._tape = tape
        self._p = tape.p
        # The claims about each node, pairs of a point and a value.
        self._claims = [[] for _ in self._nodes]
        point = tape.next_throws(sum(self._shapes[last]))
        value = value_at(claimed, point, self._p)
        tape.note(("outputs",), claimed, value)
        self._claims[last].append((point, value))

    def ask_all(self):
        """Asks about all nodes that have claims, the last one first."""
        for at in range(len(self._nodes) - 1, -1, -1):
            if len(self._claims[at]) > 0 and self._tape.result is None:
                claim = self._joined(at)
                if claim is not None:
                    self._ask(at, claim)
        self._tape.believe()

    def _joined(self, at):
        """The one claim that is left of those about a node; None if an answer does not fit."""
        claims = self._claims[at]
        if len(claims) == 1:
            return claims[0]
        points = [point for point, _ in claims]
        return asked_join(self._tape, points, [value for _, value in claims], (at, "join"), (at,))

    def _ask(self, at, claim):
        """Turns a claim about a node into claims about its operands, or compares it."""
        point, value = claim
        word = self._nodes[at][0]
        if word == "input":
            self._tape.compare(value, value_at(self._inputs[self._nodes[at][1]], point, self._p), (at, "input"))
        elif word == "number":
            self._tape.compare(value, self._nodes[at][1], (at, "number"))
        elif word == "product":
            self._ask_levels(at, value)
        else:
            self._ask_operands(at, point, value)

    def _ask_operands(self, at, point, claim):
        """Turns a claim about a node of one stage into claims about its operands."""
        rounds = stages_of(self._plan, at)[0]
        found = self._asked_stage((at, 0), point, claim, rounds)
        if found is None:
            return
        thrown, values = found
        points = operand_points(self._plan, at, point, thrown)
        for operand, there, value in zip(operands(self._nodes[at]), points, values):
            self._claims[operand].append((there, value))

    def _asked_stage(self, place, point, claim, rounds):
        """Asks a stage; the throws and the values behind it, or None if an answer does not fit."""
        word = self._nodes[place[0]][0]
        sums = SumAsker(self._p, claim, [degree_of(word)] * rounds)
        if not asked_rounds(self._tape, sums, place, ("round",) + place):
            return None
        many = values_of(word)
        if many == 0:
            return sums.throws, [sums.claim]
        sent = self._tape.next_answer()
        if not are_numbers(sent, many, self._p) or self._told_claim(word, point, sums, sent) != sums.claim:
            self._tape.refuse(place + ("values",))
            return None
        return sums.throws, sent

    def _told_claim(self, word, point, sums, sent):
        """What the claim behind the rounds must be if the values that were sent are right."""
        return factor_at(word, point, sums.throws, self._p) * combined(word, sent, self._p) % self._p

    def _ask_levels(self, at, claim):
        """Turns a claim about a product of entries into one about its operand, level by level."""
        point = []
        for level in stages_of(self._plan, at):
            found = self._asked_stage((at, level), point, claim, level)
            if found is None:
                return
            thrown, (low, high) = found
            number = self._tape.next_throw()
            claim = (low + number * (high - low)) % self._p
            self._tape.note(("line", at, level), [low, high], claim)
            point = [number] + thrown
        self._claims[operands(self._nodes[at])[0]].append((point, claim))


class LargeAnswerer:
    """The honest answerer of the questions of a LargeAsker."""

    def __init__(self, plan, inputs, tape):
        _, _, self._nodes, self._shapes, last = plan
        self._plan = plan
        self._tape = tape
        self._p = tape.p
        self._tables = tables_of(plan, inputs)
        # The points of the claims about each node.
        self._points = [[] for _ in self._nodes]
        self._points[last].append(tape.next_throws(sum(self._shapes[last])))
        self._told = []

    def answer_all(self):
        """The answers to all questions."""
        for at in range(len(self._nodes) - 1, -1, -1):
            if len(self._points[at]) > 0:
                point = self._joined(at)
                if self._nodes[at][0] == "product":
                    self._answer_levels(at)
                elif len(operands(self._nodes[at])) > 0:
                    self._answer_operands(at, point)
        return self._told

    def _joined(self, at):
        """The one point that is left of those of the claims about a node."""
        points = self._points[at]
        if len(points) == 1:
            return points[0]
        thrown = self._tape.next_throws(len(points[0]) + 1)
        polys, number = join_answers(JoinAnswerer(self._p, self._tables[at], points), thrown)
        self._told += polys + [[number]]
        return thrown[1:]

    def _answer_operands(self, at, point):
        """Answers about a node of one stage."""
        word = self._nodes[at][0]
        rounds = stages_of(self._plan, at)[0]
        thrown = self._tape.next_throws(rounds)
        if rounds > 0:
            terms = terms_of(self._plan, at, self._tables, point)
            polys, _ = honest_rounds(terms, degree_of(word), thrown, self._p)
            self._told += polys
        points = operand_points(self._plan, at, point, thrown)
        values = []
        for operand, there in zip(operands(self._nodes[at]), points):
            self._points[operand].append(there)
            values.append(value_at(self._tables[operand], there, self._p))
        if values_of(word) > 0:
            self._told.append(values)

    def _answer_levels(self, at):
        """Answers about a product of entries, level by level."""
        operand = operands(self._nodes[at])[0]
        levels = self._levels(self._tables[operand])
        point = []
        for level in stages_of(self._plan, at):
            following = levels[level + 1]
            terms = [[point_table(point, self._p), following[::2], following[1::2]]]
            thrown = self._tape.next_throws(level)
            polys, left = honest_rounds(terms, degree_of("product"), thrown, self._p)
            _, low, high = left[0]
            self._told += polys + [[low[0], high[0]]]
            point = [self._tape.next_throw()] + thrown
        self._points[operand].append(point)

    def _levels(self, table):
        """The tables of the products, from one product to the table itself."""
        found = [list(table)]
        while len(found[-1]) > 1:
            last = found[-1]
            found.append([low * high % self._p for low, high in zip(last[::2], last[1::2])])
        return found[::-1]


def check_inputs(plan, inputs):
    """Raises CircuitError if tables of inputs do not fit."""
    _, p, nodes, shapes, _ = plan
    places = [at for at, node in enumerate(nodes) if node[0] == "input"]
    if not isinstance(inputs, list) or len(inputs) != len(places):
        raise CircuitError("inputs")
    for at, table in zip(places, inputs):
        if not are_numbers(table, 1 << sum(shapes[at]), p):
            raise CircuitError("inputs")


def check_large_modulus(plan):
    """Raises CircuitError if the modulus is too small for the conversation."""
    _, p, nodes, _, last = plan
    if p < LEAST_MODULUS or p <= max(uses(nodes, last)):
        raise CircuitError("modulus")


def check_large(plan, inputs, claimed, throws, answers):
    """Raises the errors of a conversation about a large expression."""
    _, p, _, shapes, last = plan
    check_inputs(plan, inputs)
    if not are_numbers(claimed, 1 << sum(shapes[last]), p):
        raise CircuitError("outputs")
    check_large_modulus(plan)
    many_throws, many_answers, _ = large_counts(plan)
    check_dice(throws, many_throws, p)
    if not isinstance(answers, list) or len(answers) != many_answers:
        raise TalkError("answers")


def asked_large(plan, inputs, claimed, throws, answers):
    """The tape of a whole conversation that is not checked."""
    tape = Tape(plan[1], throws, answers)
    LargeAsker(plan, inputs, claimed, tape).ask_all()
    return tape


def judge_large(plan, inputs, claimed, throws, answers):
    """The result of a whole conversation about a large expression."""
    check_large(plan, inputs, claimed, throws, answers)
    return asked_large(plan, inputs, claimed, throws, answers).result


def large_answers(plan, inputs, throws):
    """The honest answers."""
    check_inputs(plan, inputs)
    check_large_modulus(plan)
    many_throws, _, _ = large_counts(plan)
    check_dice(throws, many_throws, plan[1])
    return LargeAnswerer(plan, inputs, Tape(plan[1], throws, [])).answer_all()


def blame_large(plan, inputs, claimed, throws, answers):
    """The blame, or None if the claimed table is true or not believed."""
    check_large(plan, inputs, claimed, throws, answers)
    tape = asked_large(plan, inputs, claimed, throws, answers)
    true = tables_of(plan, inputs)[plan[4]]
    if tape.result != BELIEVED or claimed == true:
        return None
    honest = large_answers(plan, inputs, throws)
    return first_agreement(tape.trace, asked_large(plan, inputs, true, throws, honest).trace)
