"""Programs that are run many times, each time over their own outputs (points 23.5 to 23.7)."""

from layerask.chains import blame_chain, chain_throws, judge_chain, run_chain, told_by_links
from layerask.circuits import copied, row_bits, width
from layerask.errors import ProgramError
from layerask.graphs import ONE, build
from layerask.layers import circuit_of
from layerask.meaning import evaluate
from layerask.sizes import count_numbers, output_sizes
from layerask.tables import parse_with_tables


def state_size(program):
    """The number of the numbers of a state; raises the errors of a program that is not valid or has none."""
    many = count_numbers(output_sizes(program))
    _, _, inputs, _, outputs = program
    if many != count_numbers([size for _, size, _ in inputs]):
        _, line = outputs[0]
        raise ProgramError("state", line)
    return many


def state_circuit(program):
    """The circuit of a step of a valid program that has a state."""
    word, p, many, nodes, outputs = build(program)
    return circuit_of((word, p, many, nodes, [ONE] + outputs))


class StepJob:
    """A program that has a state, and how many steps it takes."""

    def __init__(self, text, steps):
        self.program = parse_with_tables(text)
        self.numbers = state_size(self.program)
        self.steps = steps
        self.circuit = state_circuit(self.program)
        self.links = [copied(self.circuit) for _ in range(steps)]

    def columns(self, rows):
        """The rows of the circuit's columns for states."""
        # What has not as many numbers as a state gets no row of the right length, and so is refused.
        zeros = [0] * ((1 << width(self.circuit, 0)) - self.numbers - 1)
        return [[1] + list(row) + zeros for row in rows]

    def states(self, rows):
        """The states behind 0, 1, 2 and so on steps that the program means."""
        found = [[list(row) for row in rows]]
        for _ in range(self.steps):
            found.append([evaluate(self.program, row) for row in found[-1]])
        return found

    def honest(self, rows, dice):
        """The pair of the honest claim and the honest answers."""
        states = run_chain(self.links, self.columns(rows))
        claims = [row[1:self.numbers + 1] for row in states[-1]]
        return claims, told_by_links(self.links, states, dice)

    def asked(self, rows, claims, dice, told):
        """The result of the conversation."""
        return judge_chain(self.links, self.columns(rows), self.columns(claims), dice, told)

    def blamed(self, rows, claims, dice, told):
        """The blame of the conversation."""
        return blame_chain(self.links, self.columns(rows), self.columns(claims), dice, told)

    def throw_count(self, rows):
        """The number of the throws of a conversation about these rows."""
        return chain_throws(self.links, row_bits(rows))
