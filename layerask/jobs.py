"""Programs that are run over rows, with their circuits (point 19)."""

from layerask.answering import honest_talk
from layerask.asking import judge
from layerask.circuits import output_rows, row_bits, width
from layerask.counts import throws
from layerask.layers import circuit_of_program, input_columns
from layerask.meaning import evaluate
from layerask.parsing import parse_program
from layerask.sizes import count_numbers, output_sizes


class Job:
    """A program with its circuit."""

    def __init__(self, text):
        self.program = parse_program(text)
        self.outputs = count_numbers(output_sizes(self.program))
        self.inputs = count_numbers([size for _, size, _ in self.program[2]])
        self.circuit = circuit_of_program(self.program)

    def columns(self, rows):
        """The rows of the circuit's inputs."""
        return [input_columns(self.circuit, row) for row in rows]

    def claimed(self, claims):
        """The rows of the circuit's outputs."""
        many = 1 << width(self.circuit, 0)
        return [list(row) + [0] * (many - len(row)) for row in claims]

    def meaning(self, rows):
        """The rows of outputs that the program means."""
        return [evaluate(self.program, row) for row in rows]

    def honest(self, rows, dice):
        """The pair of the honest claim and the honest answers."""
        table, told = honest_talk(self.circuit, self.columns(rows), dice)
        claims = [row[:self.outputs] for row in output_rows(self.circuit, table, row_bits(rows))]
        return claims, told

    def asked(self, rows, claims, dice, told):
        """The result of the conversation."""
        return judge(self.circuit, self.columns(rows), self.claimed(claims), dice, told)

    def throw_count(self, rows):
        """The number of the throws of a conversation about these rows."""
        return throws(self.circuit, row_bits(rows))
