"""Points 19.1 to 19.3, and 0.11: programs over rows, from the text to a conversation that is believed."""

import unittest
from itertools import product

from layerask.answering import Answerer, answers
from layerask.asking import judge
from layerask.blame import blame
from layerask.bluffing import Bluffer, Guesser
from layerask.counts import most_believed
from layerask.errors import CircuitError, ProgramError, SizeError, TalkError, TextError
from layerask.jobs import Job
from layerask.layers import circuit_of_program
from layerask.parsing import parse_program
from layerask.talks import read_talk, write_talk
from layerask.trees import write_program
from plain import GREATEST, Numbers, kept, plain_blame, raised, sample_rows, unshared
from programs import plain_meaning, sample_program

TEXT = "field 97\ninput a[2]\noutput a[0] * a[1]\noutput a\noutput a[0] - a[1]\noutput 5"


def samples(p, seeds, deep=3):
    """Jobs of sampled programs, with rows of inputs."""
    for seed in seeds:
        tree = sample_program(seed, p, deep)
        try:
            job = Job(write_program(tree))
        except SizeError:
            continue
        numbers = Numbers(seed)
        yield job, [numbers.many(job.inputs, p) for _ in range(2 ** numbers.below(3))], numbers


class MakingTest(unittest.TestCase):
    """Point 19.1."""

    def test_fields(self):
        job = Job(TEXT)
        self.assertEqual(job.program, parse_program(TEXT))
        self.assertEqual(job.circuit, circuit_of_program(parse_program(TEXT)))
        self.assertEqual((job.inputs, job.outputs), (2, 5))
        empty = Job("field 7 output 3")
        self.assertEqual((empty.inputs, empty.outputs), (0, 1))

    def test_errors(self):
        raised(self, TextError, "line", 2, Job, "field 97\noutput")
        raised(self, TextError, "line", 1, Job, "")
        raised(self, ProgramError, "kind", "prime", Job, "field 9 output 1")
        raised(self, ProgramError, "line", 3, Job, "field 97\n\noutput x")
        raised(self, SizeError, "limit", "steps", Job, "field 97 output sum i < 64: sum j < 64: sum k < 64: 1")
        raised(self, SizeError, "limit", "layers", Job, "field 97 input a output (repeat 64 with x = a: x * x) + a")
        raised(self, SizeError, "limit", "gates", Job,
               "field 97 input a input b output sum i < 64: sum j < 40: (a + i) * (b + j)")

    def test_the_order_of_the_errors(self):
        deep = "(repeat 64 with x = a: x * x) + a"
        raised(self, TextError, "line", 2, Job, f"field 9 input a input a output {deep}\n]")
        raised(self, ProgramError, "kind", "prime", Job, f"field 9 input a output {deep}")
        raised(self, ProgramError, "kind", "name", Job, f"field 97 input a output {deep} output b")
        raised(self, SizeError, "limit", "layers", Job, f"field 97 input a output {deep} output a")
        # The building's limit comes before the circuit's.
        raised(self, SizeError, "limit", "gates", Job,
               f"field 97 input a input b let y = sum i < 64: sum j < 40: (a + i) * (b + j) output {deep}")

    def test_columns(self):
        job = Job(TEXT)
        self.assertEqual(kept(self, job.columns, [[5, 7], [2, 3]]), [[1, 5, 7, 0], [1, 2, 3, 0]])
        self.assertEqual(kept(self, job.claimed, [[1, 2, 3, 4, 5], [6, 7, 8, 9, 10]]), [[1, 2, 3, 4, 5, 0, 0, 0], [6, 7, 8, 9, 10, 0, 0, 0]])
        whole = Job("field 97 input a[3] output a[0] output a[1]")
        self.assertEqual(kept(self, whole.columns, [[5, 7, 8]]), [[1, 5, 7, 8]])
        self.assertEqual(kept(self, whole.claimed, [[5, 7]]), [[5, 7]])
        empty = Job("field 7 output 3")
        self.assertEqual((empty.columns([[]]), empty.claimed([[3]])), ([[1]], [[3]]))


class RoadTest(unittest.TestCase):
    """Points 19.2 and 19.3."""

    def test_the_honest_claim_is_what_the_program_means(self):
        for p in (5, 97, GREATEST):
            for job, rows, numbers in samples(p, range(60)):
                if p == 5 and max(job.circuit[2][1:]) >= 5:
                    continue
                dice = numbers.many(job.throw_count(rows), p)
                claims, told = kept(self, job.honest, rows, dice)
                meant = kept(self, job.meaning, rows)
                self.assertEqual(claims, meant)
                self.assertEqual(meant, [plain_meaning(job.program, row) for row in rows])
                self.assertEqual(kept(self, job.asked, rows, claims, dice, told), ("believed",))

    def test_it_is_a_conversation_about_the_circuit(self):
        for job, rows, numbers in samples(97, range(30)):
            dice = numbers.many(job.throw_count(rows), 97)
            claims, told = job.honest(rows, dice)
            self.assertIsInstance(job.honest(rows, dice), tuple)
            self.assertEqual(told, answers(Answerer(job.circuit, job.columns(rows)), dice))
            claims[-1][0] = (claims[-1][0] + 1) % 97
            self.assertEqual(job.asked(rows, claims, dice, told), judge(job.circuit, job.columns(rows), job.claimed(claims), dice, told))
            self.assertEqual(read_talk(write_talk(dice, told)), (dice, told))

    def test_without_inputs(self):
        job = Job("field 97 output 5 output 1 == 1")
        dice = list(range(job.throw_count([[], []])))
        claims, told = job.honest([[], []], dice)
        self.assertEqual(claims, [[5, 1], [5, 1]])
        self.assertEqual(job.asked([[], []], claims, dice, told), ("believed",))

    def test_all_throws(self):
        job = Job("field 5 input a output a * a - 1")
        rows = [[3]]
        self.assertEqual(job.throw_count(rows), 6)
        for dice in product(range(5), repeat=6):
            claims, told = job.honest(rows, list(dice))
            self.assertEqual(claims, [[3]])
            self.assertEqual(job.asked(rows, claims, list(dice), told), ("believed",))

    def test_other_outputs_are_refused_or_have_a_blame(self):
        seen = set()
        for p in (5, 7, 97):
            for job, rows, numbers in samples(p, range(25), 2):
                if max(job.circuit[2][1:]) >= p or sum(len(gates) for gates in job.circuit[3]) > 60:
                    continue
                claims = job.meaning(rows)
                claims[-1][-1] = (claims[-1][-1] + 1) % p
                outputs = job.claimed(claims)
                table = [row[at] for at in range(len(outputs[0])) for row in outputs]
                for _ in range(10):
                    dice = numbers.many(job.throw_count(rows), p)
                    choices = numbers.many(30, p)
                    for answerer in (Answerer(job.circuit, job.columns(rows)), Bluffer(job.circuit, job.columns(rows), table, choices),
                                     Guesser(job.circuit, job.columns(rows), table, choices)):
                        told = answers(answerer, dice)
                        result = job.asked(rows, claims, dice, told)
                        place = blame(job.circuit, job.columns(rows), outputs, dice, told)
                        if result == ("believed",):
                            self.assertEqual(place, plain_blame(job.circuit, job.columns(rows), outputs, dice, told))
                            self.assertIsInstance(place, tuple)
                            seen.add(place[0])
                        else:
                            self.assertIsNone(place)
                            seen.add(result[0])
        self.assertEqual(seen, {"refused", "outputs", "round", "line"})

    def test_the_share_of_the_throws(self):
        job = Job("field 5 output 1 output 2")
        many = 0
        for dice in product(range(5), repeat=job.throw_count([[]])):
            told = job.honest([[]], list(dice))[1]
            many += job.asked([[]], [[1, 3]], list(dice), told) == ("believed",)
        self.assertGreater(many, 0)
        self.assertLessEqual(many, most_believed(job.circuit, 0))

    def test_throw_count(self):
        job = Job("field 97\ninput a[2]\noutput a[0] * a[1]")
        self.assertEqual([kept(self, job.throw_count, [[1, 2]] * many) for many in (1, 2, 4, 1024)], [5, 7, 9, 25])

    def test_many_rows(self):
        job = Job("field 97 input a input b output a * b + a")
        rows = [[k % 97, k % 5] for k in range(1024)]
        dice = Numbers(3).many(job.throw_count(rows), 97)
        claims, told = job.honest(rows, dice)
        self.assertEqual(claims, job.meaning(rows))
        self.assertEqual(job.asked(rows, claims, dice, told), ("believed",))


class ErrorTest(unittest.TestCase):
    def test_as_judge_does(self):
        job = Job(TEXT)
        rows = [[5, 7], [2, 3]]
        dice = Numbers(1).many(job.throw_count(rows), 97)
        claims, told = job.honest(rows, dice)
        for field, word, kind, given in (
                ("part", "rows", CircuitError, ([], [], dice, told)), ("part", "rows", CircuitError, (rows + rows[:1], claims, dice, told)),
                ("limit", "rows", SizeError, (rows * 1024, claims, dice, told)), ("part", "row", CircuitError, ([[5, 97], [2, 3]], claims, dice, told)),
                ("part", "outputs", CircuitError, (rows, claims[:1], dice, told)),
                ("part", "outputs", CircuitError, (rows, [claims[0], [0, 0, 0, 0, 97]], dice, told)),
                ("step", "throws", TalkError, (rows, claims, dice[:-1], told)), ("step", "throws", TalkError, (rows, claims, dice + [1], told)),
                ("step", "answers", TalkError, (rows, claims, dice, told[:-1])), ("step", "throw", TalkError, (rows, claims, [97] + dice[1:], told))):
            raised(self, kind, field, word, job.asked, *given)
        small = Job("field 3 input a[2] output a[0] * a[1]")
        raised(self, CircuitError, "part", "modulus", small.asked, [[1, 2]], [[2]], [], [])

    def test_refused(self):
        job = Job(TEXT)
        rows = [[5, 7], [2, 3]]
        dice = Numbers(1).many(job.throw_count(rows), 97)
        claims, told = job.honest(rows, dice)
        self.assertEqual(job.asked(rows, [claims[0], [6, 2, 3, 97 - 1, 6]], dice, told), ("refused", 0, 0))

    def test_results_are_fresh(self):
        job = Job(TEXT)
        rows = [[5, 7], [2, 3]]
        unshared(self, job.columns(rows), [rows, job.circuit])
        claims, told = job.honest(rows, Numbers(1).many(job.throw_count(rows), 97))
        unshared(self, [claims, told], [rows, job.circuit, job.program])
        claims[0].clear()
        self.assertEqual(job.meaning(rows)[0], [35, 5, 7, 95, 5])


if __name__ == "__main__":
    unittest.main()
