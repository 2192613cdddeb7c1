"""The asker of a whole conversation (point 10)."""

from layerask.answering import rounds_of
from layerask.circuits import checked, checked_rows, copied, depth, modulus, row_bits, rows_table, width
from layerask.counts import first_throws, many_throws
from layerask.cubes import value_at
from layerask.errors import CircuitError, TalkError
from layerask.field import are_numbers, is_number
from layerask.turns import Turn


# The results of a conversation in which every answer fits: with the last comparison, or without it.
BELIEVED = ("believed",)
CLAIMED = ("claimed",)


def check_talk_modulus(circuit):
    """Raises CircuitError if the modulus is too small for a conversation."""
    widths = [width(circuit, layer) for layer in range(1, depth(circuit) + 1)]
    if modulus(circuit) <= max(3, max(widths)):
        raise CircuitError("modulus")


def check_outputs(circuit, rows, outputs):
    """Raises CircuitError if the claimed outputs do not fit the circuit and the rows."""
    if not isinstance(outputs, list) or len(outputs) != len(rows):
        raise CircuitError("outputs")
    for row in outputs:
        if not are_numbers(row, 1 << width(circuit, 0), modulus(circuit)):
            raise CircuitError("outputs")


def check_talk(circuit, rows, outputs):
    """Raises the errors of a conversation about a valid circuit that cannot begin."""
    check_talk_modulus(circuit)
    checked_rows(circuit, rows)
    check_outputs(circuit, rows, outputs)


class Questions:
    """The asker of a conversation about the tables of inputs and outputs; nothing is checked or copied.

    Without a table of inputs, the claim about it is not compared, but the result.
    """

    def __init__(self, circuit, dims, inputs, outputs):
        self.result = None
        self.work = 0
        # The claim about the last layer, as soon as it is made.
        self.last_point = None
        self.last_claim = None
        self._circuit = circuit
        self._p = modulus(circuit)
        self._dims = dims
        self._inputs = inputs
        self._outputs = outputs
        self._point = []
        self._turn = None
        self._at = 0
        self._due = "throw"
        self._look_at_outputs()

    def wants(self):
        """What comes next: "throw", "polynomial", "line" or "nothing"."""
        return self._due

    def throw(self, number):
        """Takes a throw."""
        if self._due != "throw" or not is_number(number, self._p):
            raise TalkError("throw")
        if self._turn is None:
            self._point.append(number)
            self._look_at_outputs()
        elif self._turn.sums.is_done():
            self._turn.throw_line(number)
            self._at += 1
            self._take_claim(self._turn.next_point, self._turn.next_claim)
        else:
            self._turn.sums.throw(number)
            self._due = self._due_answer()

    def answer(self, values):
        """Takes an answer; tells whether it fits."""
        if self._due == "polynomial":
            return self._take_polynomial(values)
        if self._due == "line":
            return self._take_line(values)
        raise TalkError("answer")

    def _look_at_outputs(self):
        """Makes the first claim as soon as its point is thrown."""
        if len(self._point) == first_throws(self._circuit, self._dims):
            self.work += len(self._outputs)
            self._take_claim(self._point, value_at(self._outputs, self._point, self._p))

    def _take_claim(self, point, claim):
        """Begins to ask about the next layer, or compares the claim with the inputs."""
        if self._at < depth(self._circuit):
            self._turn = self._new_turn(point, claim)
            self._due = self._due_answer()
            return
        self.last_point = point
        self.last_claim = claim
        if self._inputs is None:
            self._end(CLAIMED)
        else:
            self._compare()

    def _compare(self):
        """Compares the last claim with the inputs."""
        self.work += len(self._inputs)
        if value_at(self._inputs, self.last_point, self._p) == self.last_claim:
            self._end(BELIEVED)
        else:
            self._end(("refused", self._at, "inputs"))

    def _new_turn(self, point, claim):
        """The asker of a claim about the present layer."""
        return Turn(self._circuit, self._at, self._dims, point, claim)

    def _weighing(self):
        """What is counted for the weights of the present layer."""
        return 1 << width(self._circuit, self._at)

    def _due_answer(self):
        """The answer that comes next in a layer."""
        return "line" if self._turn.sums.is_done() else "polynomial"

    def _take_polynomial(self, values):
        sums = self._turn.sums
        if not sums.accept(values):
            self._end(("refused", self._at, len(sums.throws)))
            return False
        self.work += len(values)
        self._due = "throw"
        return True

    def _take_line(self, values):
        if not self._turn.accept_line(values):
            self._end(("refused", self._at, "end"))
            return False
        # The weights were calculated for the line.
        self.work += len(values) + self._weighing()
        self._due = "throw"
        return True

    def _end(self, result):
        """Ends the conversation."""
        self.result = result
        self._due = "nothing"


class Asker:
    """The asker of the claim that a circuit has certain outputs."""

    def __init__(self, circuit, rows, outputs):
        checked(circuit)
        check_talk(circuit, rows, outputs)
        self._questions = Questions(copied(circuit), row_bits(rows), rows_table(rows), rows_table(outputs))
        self.result = None
        self.work = 0
        self._look()

    def wants(self):
        """What comes next: "throw", "polynomial", "line" or "nothing"."""
        return self._questions.wants()

    def throw(self, number):
        """Takes a throw."""
        self._questions.throw(number)
        self._look()

    def answer(self, values):
        """Takes an answer; tells whether it fits."""
        fits = self._questions.answer(values)
        self._look()
        return fits

    def _look(self):
        """Takes over how far the questions are."""
        self.result = self._questions.result
        self.work = self._questions.work


def has_answers(pair, rounds):
    """Whether a pair of answers to a layer has as many polynomials as the layer has rounds."""
    if not isinstance(pair, tuple) or len(pair) != 2:
        return False
    return isinstance(pair[0], list) and len(pair[0]) == rounds


def check_throws(circuit, dims, throws):
    """Raises TalkError if there are not as many throws as a conversation has."""
    if len(throws) != many_throws(circuit, dims):
        raise TalkError("throws")


def check_answers(circuit, dims, answers):
    """Raises TalkError if there are not as many answers as a conversation has."""
    if not isinstance(answers, list) or len(answers) != depth(circuit):
        raise TalkError("answers")
    for layer, pair in enumerate(answers):
        if not has_answers(pair, rounds_of(circuit, dims, layer)):
            raise TalkError("answers")


def play(asker, throws, answers):
    """The result of a conversation with these throws and answers to all layers."""
    told = [values for polys, line in answers for values in polys + [line]]
    thrown = 0
    answered = 0
    while asker.result is None:
        if asker.wants() == "throw":
            asker.throw(throws[thrown])
            thrown += 1
        else:
            asker.answer(told[answered])
            answered += 1
    return asker.result


def judge(circuit, rows, outputs, throws, answers):
    """The result of a whole conversation."""
    asker = Asker(circuit, rows, outputs)
    check_throws(circuit, row_bits(rows), throws)
    check_answers(circuit, row_bits(rows), answers)
    return play(asker, throws, answers)
