"""Points 23.5 to 23.7: programs that are run many times."""

import unittest
from copy import deepcopy

from bluffs import bluffed, counted
from layerask.bluffing import Bluffer
from layerask.answering import answers
from layerask.chains import blame_chain, chain_answers, chain_most, chain_share, chain_throws, judge_chain, run_chain
from layerask.circuits import checked, run_row
from layerask.errors import CircuitError, ProgramError, SizeError, TalkError, TextError
from layerask.graphs import build
from layerask.parsing import parse_program
from layerask.stepping import StepJob, state_circuit, state_size
from layerask.tables import parse_with_tables
from layerask.trees import write_program
from plain import GREATEST, Numbers, kept, lists_in, plain_blame, raised, unshared
from plaingraphs import plain_circuit, plain_graph
from programs import plain_meaning, program, sample_program
from test_chains import by_links, flat, in_links, whole

TEXT = "table T = 1 2 0\nfield 97\ninput a\ninput b\noutput T(a)\noutput b + a * a"


def with_state(tree):
    """A program with as many outputs as inputs, made of a sampled one."""
    _, p, inputs, parts, outputs = tree
    names = [("name", word) for word, _, _ in inputs]
    e = outputs[0][0]
    mixing = [("+", name, name) for name in names[:-1]]
    return program(p, [cell[:2] for cell in inputs], [part[:-1] if part[0] == "let" else part[:2] + ([cell[:2] for cell in part[2]], part[3])
                                                      for part in parts], mixing + [("-", names[-1], e)])


def samples(p, seeds):
    """Jobs of sampled programs of a few steps, with rows of states."""
    for seed in seeds:
        tree = sample_program(seed, p, 2)
        if not tree[2] or any(size for _, size, _ in tree[2][-1:]):
            continue
        try:
            tree = with_state(tree)
            job = StepJob(write_program(tree), 1 + seed % 4)
        except (SizeError, ProgramError):
            continue
        numbers = Numbers(seed)
        yield job, [numbers.many(job.numbers, p) for _ in range(2 ** numbers.below(3))], numbers


def plain_states(tree, steps, rows):
    found = [rows]
    for _ in range(steps):
        found.append([plain_meaning(tree, row) for row in found[-1]])
    return found


def padded(job, rows):
    """Point 23.6: 1, the state, and zeros."""
    many = 2 ** job.circuit[2][0]
    return [[1] + row + [0] * (many - 1 - len(row)) for row in rows]


def flat_answers(told):
    return [values for polys, line in flat(told) for values in polys + [line]]


def shaped(answers_told, like):
    left = list(answers_told)
    return [[([left.pop(0) for _ in polys], left.pop(0)) for polys, _ in link] for link in like]


class StateTest(unittest.TestCase):
    def test_sizes(self):
        for text, many in (("input a output a", 1), ("input a[3] output a", 3), ("input a[2] input b output b output [b, b]", 3),
                           ("input a[2] output a[0] output a[1] == 1", 2), ("input a[64] output a", 64)):
            self.assertEqual(state_size(parse_program("field 97 " + text)), many)

    def test_no_state(self):
        for text, line in (("field 97\noutput 1", 2), ("field 97\ninput a\n\noutput a\noutput a", 4), ("field 97\ninput a[3]\noutput 1 output 2", 3),
                           ("field 97\ninput a[3] output a output a", 2)):
            raised(self, ProgramError, "kind", "state", state_size, parse_program(text))
            raised(self, ProgramError, "line", line, state_size, parse_program(text))
            raised(self, ProgramError, "line", line, StepJob, text, 3)

    def test_errors_of_the_check_come_first(self):
        raised(self, ProgramError, "kind", "prime", state_size, parse_program("field 9 output 1"))
        raised(self, ProgramError, "kind", "name", state_size, parse_program("field 97 output 1 output a"))
        raised(self, SizeError, "limit", "steps", state_size, parse_program("field 97 output sum i < 64: sum j < 64: sum k < 64: 1"))


class CircuitTest(unittest.TestCase):
    """Point 23.5."""

    def expected(self, tree):
        word, p, many, nodes, outputs = plain_graph(tree)
        return plain_circuit((word, p, many, nodes, [0] + outputs))

    def test_small_ones(self):
        # The one and the state are read two layers before the outputs.
        self.assertEqual(state_circuit(parse_program("field 97 input a output a * a + 1")),
                         ("circuit", 97, [1, 1, 1], [[("lin", 1, 0, 0, 0), ("lin", 1, 0, 1, 1)], [("lin", 1, 0, 0, 0), ("mul", 1, 1, 1)]]))
        self.assertEqual(state_circuit(parse_program("field 97 input a output a")),
                         ("circuit", 97, [1, 1], [[("lin", 1, 0, 0, 0), ("lin", 1, 1, 0, 1)]]))

    def test_by_the_graph(self):
        many = 0
        for p in (5, 97, GREATEST):
            for job, _, _ in samples(p, range(80)):
                self.assertEqual(job.circuit, self.expected(job.program))
                self.assertEqual(state_circuit(job.program), job.circuit)
                self.assertEqual(job.circuit[2][0], job.circuit[2][-1])
                checked(job.circuit)
                many += 1
        self.assertGreater(many, 30)

    def test_a_step(self):
        """Layer 0 has 1, the next state, and zeros."""
        for job, rows, _ in samples(97, range(40)):
            for row in padded(job, rows):
                following = plain_meaning(job.program, row[1:job.numbers + 1])
                self.assertEqual(run_row(job.circuit, row)[0], padded(job, [following])[0])

    def test_the_widest_state(self):
        text = "field 97\n" + "".join(f"input a{k}[64]\n" for k in range(3)) + "input b[63]\noutput a1\noutput a2\noutput a0\noutput b"
        job = StepJob(text, 2)
        self.assertEqual((job.numbers, job.circuit[2]), (255, [8, 8]))
        text = "field 97\n" + "".join(f"input a{k}[64]\n" for k in range(4)) + "output a1\noutput a2\noutput a0\noutput a3"
        raised(self, SizeError, "limit", "columns", StepJob, text, 2)
        raised(self, SizeError, "limit", "columns", state_circuit, parse_program(text))

    def test_other_limits(self):
        raised(self, SizeError, "limit", "layers", StepJob, "field 97 input a output (repeat 64 with x = a: x * x) + a", 1)
        raised(self, SizeError, "limit", "gates", StepJob,
               "field 97 input a input b output sum i < 64: sum j < 40: (a + i) * (b + j) output a", 1)
        self.assertEqual(len(StepJob("field 97 input a output repeat 64 with x = a: x * x", 1).circuit[3]), 64)


class JobTest(unittest.TestCase):
    """Points 23.6 and 23.7."""

    def test_fields(self):
        job = StepJob(TEXT, 3)
        self.assertEqual(job.program, parse_with_tables(TEXT))
        self.assertEqual((job.numbers, job.steps, job.links), (2, 3, [job.circuit] * 3))
        self.assertEqual(job.circuit, state_circuit(job.program))
        # The graph's outputs have 1 ahead of them.
        self.assertEqual(len(job.circuit[3][0]), 4)
        self.assertEqual(build(job.program)[2], 2)
        held = lists_in(job.links)
        self.assertEqual(len({id(entry) for entry in held}), len(held))
        unshared(self, job.links, job.circuit)

    def test_the_order_of_the_errors(self):
        deep = "(repeat 64 with x = a: x * x) + a"
        raised(self, TextError, "line", 3, StepJob, f"field 9\noutput $ {deep}\ntable", 1)
        raised(self, TextError, "line", 2, StepJob, f"field 9\noutput $ {deep}\ntable T = 100", 1)
        raised(self, ProgramError, "kind", "prime", StepJob, f"field 9\noutput {deep}\ntable T = 100", 1)
        raised(self, ProgramError, "kind", "number", StepJob, f"field 97\noutput {deep}\ntable T = 100", 1)
        raised(self, ProgramError, "kind", "name", StepJob, f"field 97\ninput a\noutput {deep}\noutput b\ntable T = 1", 1)
        raised(self, SizeError, "limit", "steps", StepJob, "field 97\noutput 1\noutput sum i < 64: sum j < 64: sum k < 64: 1", 1)
        raised(self, ProgramError, "kind", "state", StepJob, f"field 97\ninput a\noutput {deep}\noutput a", 1)
        raised(self, SizeError, "limit", "layers", StepJob, f"field 97\ninput a\noutput {deep}", 1)

    def test_columns(self):
        job = StepJob(TEXT, 1)
        rows = [[5, 6], [7, 8]]
        self.assertEqual(kept(self, job.columns, rows), [[1, 5, 6, 0], [1, 7, 8, 0]])
        self.assertEqual(job.columns([]), [])

    def test_states(self):
        job = StepJob(TEXT, 3)
        rows = [[0, 5], [2, 0]]
        self.assertEqual(kept(self, job.states, rows), [[[0, 5], [2, 0]], [[1, 5], [0, 4]], [[2, 6], [1, 4]], [[0, 10], [2, 5]]])
        for p in (5, 97, GREATEST):
            for job, rows, _ in samples(p, range(40)):
                self.assertEqual(job.states(rows), plain_states(job.program, job.steps, rows))

    def test_the_chain_means_the_program(self):
        for p in (5, 97, GREATEST):
            for job, rows, _ in samples(p, range(40)):
                states = run_chain(job.links, job.columns(rows))
                self.assertEqual(states, [padded(job, state) for state in job.states(rows)])

    def test_honest_claims_are_believed(self):
        many = 0
        for p in (7, 97, GREATEST):
            for job, rows, numbers in samples(p, range(100)):
                if p <= max(job.circuit[2][1:]):
                    continue
                self.assertEqual(job.throw_count(rows), chain_throws(job.links, len(rows).bit_length() - 1))
                dice = numbers.many(job.throw_count(rows), p)
                claims, told = kept(self, job.honest, rows, dice)
                self.assertEqual(claims, plain_states(job.program, job.steps, rows)[-1])
                self.assertEqual(told, chain_answers(job.links, job.columns(rows), dice))
                self.assertEqual(kept(self, job.asked, rows, claims, dice, told), ("believed",))
                self.assertIsNone(kept(self, job.blamed, rows, claims, dice, told))
                many += 1
        self.assertGreater(many, 30)

    def test_other_claims(self):
        for job, rows, numbers in samples(GREATEST, range(30)):
            dice = numbers.many(job.throw_count(rows), GREATEST)
            claims, told = job.honest(rows, dice)
            wrong = deepcopy(claims)
            wrong[-1][-1] = (wrong[-1][-1] + 1) % GREATEST
            self.assertEqual(job.asked(rows, wrong, dice, told)[:3], ("refused", job.steps - 1, 0))
            self.assertIsNone(job.blamed(rows, wrong, dice, told))
            self.assertEqual(judge_chain(job.links, job.columns(rows), job.columns(wrong), dice, told), job.asked(rows, wrong, dice, told))

    def test_one_step_and_many(self):
        for steps in (1, 64):
            job = StepJob(TEXT, steps)
            rows = [[0, 5], [1, 7]]
            dice = Numbers(steps).many(job.throw_count(rows), 97)
            claims, told = job.honest(rows, dice)
            self.assertEqual(claims, plain_states(job.program, steps, rows)[-1])
            self.assertEqual(len(job.states(rows)), steps + 1)
            self.assertEqual(job.asked(rows, claims, dice, told), ("believed",))
            claims[0][0] = (claims[0][0] + 1) % 97
            self.assertEqual(job.asked(rows, claims, dice, told), ("refused", steps - 1, 0, 0))
        # A job of more steps can be made, but not asked about: a chain has 64 links.
        job = StepJob(TEXT, 65)
        raised(self, SizeError, "limit", "links", job.asked, [[0, 5]], [[0, 5]], [], [])

    def test_errors_of_a_conversation(self):
        job = StepJob(TEXT, 2)
        rows = [[0, 5]]
        dice = Numbers(1).many(job.throw_count(rows), 97)
        claims, told = job.honest(rows, dice)
        for function in (job.asked, job.blamed):
            raised(self, CircuitError, "part", "rows", function, [[0, 5]] * 3, claims, dice, told)
            raised(self, SizeError, "limit", "rows", function, [[0, 5]] * 2048, claims, dice, told)
            for row in ([97, 5], [0], [0, 5, 0]):
                raised(self, CircuitError, "part", "row", function, [row], claims, dice, told)
                raised(self, CircuitError, "part", "outputs", function, rows, [row], dice, told)
            raised(self, CircuitError, "part", "outputs", function, rows, claims * 2, dice, told)
            raised(self, TalkError, "step", "throws", function, rows, claims, dice[1:], told)
            raised(self, TalkError, "step", "answers", function, rows, claims, dice, told[1:])
            raised(self, TalkError, "step", "throw", function, rows, claims, [97] + dice[1:], told)
        small = StepJob("field 3 input a output a", 1)
        raised(self, CircuitError, "part", "modulus", small.asked, [[1]], [[1]], [], [])


class AllThrowsTest(unittest.TestCase):
    """For each row of throws the honest claim is believed, and another one is refused or has a blame."""

    def test_all_rows_of_throws(self):
        kinds = {}
        for text, steps in (("field 5 input a output a", 1), ("field 5 input a output a * a", 1)):
            job = StepJob(text, steps)
            rows = [[3]]
            right = job.states(rows)[-1]

            def talk(throws, seed):
                claims, honest = job.honest(rows, throws)
                self.assertEqual((claims, job.asked(rows, right, throws, honest)), (right, ("believed",)))
                wrong = [[(right[0][0] + 1) % 5]]
                told = shaped(bluffed(lambda sent: job.asked(rows, wrong, throws, shaped(sent, honest)), flat_answers(honest), 5, seed), honest)
                return job.asked(rows, wrong, throws, told), job.blamed(rows, wrong, throws, told)

            many = job.throw_count(rows)
            kinds.update(counted(self, 5, many, chain_share(job.links, 0), talk, seeds=(1,)))
        self.assertIn(("outputs",), kinds)
        self.assertIn("round", {place[0] for place in kinds})

    def test_bluffers(self):
        """The blame is that of the chain and of its one circuit."""
        kinds = set()
        for text, steps in (("field 5 input a output a * a + 1", 2), ("field 5 input a[2] output a[1] output a[0] * a[1]", 3)):
            job = StepJob(text, steps)
            one = whole(job.links)
            rows = [Numbers(k).many(job.numbers, 5) for k in range(2)]
            wrong = job.states(rows)[-1]
            wrong[1][-1] = (wrong[1][-1] + 1) % 5
            columns, claimed = padded(job, rows), padded(job, wrong)
            table = [row[at] for at in range(len(claimed[0])) for row in claimed]
            for seed in range(60):
                numbers = Numbers(seed)
                dice = numbers.many(job.throw_count(rows), 5)
                told = by_links(job.links, answers(Bluffer(one, columns, table, numbers.many(20, 5)), dice))
                place = job.blamed(rows, wrong, dice, told)
                self.assertEqual(place, blame_chain(job.links, columns, claimed, dice, told))
                believed = job.asked(rows, wrong, dice, told) == ("believed",)
                self.assertEqual(place is not None, believed)
                if believed:
                    self.assertEqual(place, in_links(job.links, plain_blame(one, columns, claimed, dice, flat(told))))
                    kinds.add(place[0])
            self.assertGreater(chain_most(job.links, 1), 0)
        self.assertLessEqual({"outputs", "round", "line"}, kinds)


if __name__ == "__main__":
    unittest.main()
