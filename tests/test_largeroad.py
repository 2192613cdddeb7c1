"""Points 27.7 to 27.10: conversations about large expressions."""

import unittest
from copy import deepcopy
from itertools import product

from bluffs import bluffed, counted
from layerask.errors import CircuitError, SizeError, TalkError, TextError
from layerask.largenodes import nodes_of, uses
from layerask.largeroad import blame_large, judge_large, large_answers, large_counts
from layerask.largetext import parse_large
from layerask.largevalues import result_of, tables_of
from plain import GREATEST, Numbers, kept, raised, unshared
from plainlarge import LargeSampler, PlainTalk

# For each kind of node an expression, and what stands in front of it.
KINDS = {"input": ("vector a 2", "a"), "number": ("number a", "4"), "add": ("vector a 1\nvector b 1", "a + b"), "sub": ("matrix a 1 1\nmatrix b 1 1", "a - b"),
         "scale": ("vector a 1\nnumber b", "a * b"), "times": ("vector a 1\nvector b 1", "a * b"), "dot": ("vector a 2\nvector b 2", "dot(a, b)"),
         "mm": ("matrix a 1 1\nmatrix b 1 0", "mm(a, b)"), "mv": ("matrix a 1 1\nvector b 1", "mv(a, b)"), "outer": ("vector a 1\nvector b 2", "outer(a, b)"),
         "transpose": ("matrix a 2 1", "transpose(a)"), "transform": ("vector a 1", "transform(a)"), "sum": ("matrix a 1 1", "sum(a)"), "product": ("vector a 2", "product(a)")}

# Expressions in which nodes have several claims.
SEVERAL = (("vector a 1", "dot(a, a)"), ("number a", "a * a + a"), ("vector a 1", "a * a"), ("vector a 1\nlet b = 2 * a - a", "dot(b, b)"), ("number a", "a - a + 3"),
           ("vector a 0", "product(a) + sum(a) + dot(a, a)"))


def plan_of(p, text, e):
    return nodes_of(parse_large(f"field {p}\n{text}\nclaim {e}"))


def inputs_of(plan, seed):
    numbers = Numbers(seed)
    return [numbers.many(2 ** sum(shape), plan[1]) for node, shape in zip(plan[2], plan[3]) if node[0] == "input"]


def samples(moduli=(5, 7, 97, GREATEST), seeds=range(80), most=2):
    for p in moduli:
        for seed in seeds:
            try:
                plan = nodes_of(parse_large(LargeSampler(seed, p, 3, most).text()))
            except (TextError, SizeError):
                continue
            if p > max(uses(plan[2], plan[4])):
                yield plan, inputs_of(plan, seed), Numbers(seed + 1)


class HonestTest(unittest.TestCase):
    """Points 27.7 and 27.10."""

    def check(self, plan, inputs, numbers):
        many, answers, share = kept(self, large_counts, plan)
        throws = numbers.many(many, plan[1])
        tables = tables_of(plan, inputs)
        told = kept(self, large_answers, plan, inputs, throws)
        talk = PlainTalk(plan, tables, tables[plan[4]], throws)
        self.assertEqual(told, talk.told)
        self.assertEqual((talk.thrown, len(talk.told), talk.degrees, talk.result), (many, answers, share, ("believed",)))
        claimed = result_of(plan, inputs)
        self.assertEqual(kept(self, judge_large, plan, inputs, claimed, throws, told), ("believed",))
        self.assertIsNone(kept(self, blame_large, plan, inputs, claimed, throws, told))

    def test_every_kind_of_node(self):
        for p in (5, 97, GREATEST):
            for word, (text, e) in KINDS.items():
                plan = plan_of(p, text, e)
                self.assertEqual(plan[2][plan[4]][0], word)
                for seed in range(4):
                    self.check(plan, inputs_of(plan, seed), Numbers(seed + 9))

    def test_several_claims(self):
        for p in (5, 97, GREATEST):
            for text, e in SEVERAL:
                plan = plan_of(p, text, e)
                self.check(plan, inputs_of(plan, 2), Numbers(4))

    def test_samples(self):
        many, words = 0, set()
        for plan, inputs, numbers in samples():
            self.check(plan, inputs, numbers)
            many += 1
            words |= {plan[2][at][0] for at, count in enumerate(uses(plan[2], plan[4])) if count}
        self.assertGreater(many, 100)
        self.assertEqual(words, set(KINDS))

    def test_shapes_without_dimensions(self):
        for text, e in (("vector a 0", "product(a)"), ("vector a 0\nvector b 0", "a * b"), ("vector a 0", "transform(a)"), ("matrix a 0 0", "transpose(mm(a, a))"),
                        ("matrix a 0 0\nvector b 0", "mv(a, b)"), ("vector a 0\nvector b 2", "outer(a, b)"), ("matrix a 0 2", "transpose(a)"), ("matrix a 0 0", "sum(a)"),
                        ("matrix a 2 0\nmatrix b 0 1", "mm(a, b)")):
            plan = plan_of(97, text, e)
            self.check(plan, inputs_of(plan, 3), Numbers(3))

    def test_all_throws(self):
        for text, e in tuple(KINDS.values()) + SEVERAL:
            plan = plan_of(5, text, e)
            many, _, _ = large_counts(plan)
            inputs = inputs_of(plan, 5)
            claimed = result_of(plan, inputs)
            for throws in product(range(5), repeat=many) if many < 5 else [Numbers(k).many(many, 5) for k in range(300)]:
                told = large_answers(plan, inputs, list(throws))
                self.assertEqual(judge_large(plan, inputs, claimed, list(throws), told), ("believed",))
                self.assertIsNone(blame_large(plan, inputs, claimed, list(throws), told))

    def test_the_largest(self):
        text = "matrix m 4 4\nmatrix n 4 4\nvector u 4\nvector v 8\nvector w 8"
        for e in ("mm(m, n) * outer(u, u) + transpose(n)", "product(v * w) + dot(v, transform(w)) - sum(m)", "product(transform(v) - 3 * w)", "mv(m * n, -u) * u"):
            plan = plan_of(GREATEST, text, e)
            inputs = inputs_of(plan, 1)
            many, _, _ = large_counts(plan)
            throws = Numbers(2).many(many, GREATEST)
            told, claimed = large_answers(plan, inputs, throws), result_of(plan, inputs)
            self.assertEqual(judge_large(plan, inputs, claimed, throws, told), ("believed",))
            claimed[-1] = (claimed[-1] + 1) % GREATEST
            self.assertEqual(judge_large(plan, inputs, claimed, throws, told)[0], "refused")

    def test_nothing_is_shared(self):
        plan = plan_of(97, "vector a 1\nvector b 0", "product(b) * sum(a)")
        inputs = [[3, 4], [5]]
        many, _, _ = large_counts(plan)
        told = large_answers(plan, inputs, [1] * many)
        unshared(self, told, inputs)
        for at, answer in enumerate(told):
            unshared(self, answer, told[:at])


class CountsTest(unittest.TestCase):
    """Point 27.10."""

    def test_kinds_of_nodes(self):
        expected = {"input": (2, 0, 2), "number": (0, 0, 0), "add": (1, 1, 1), "sub": (2, 1, 2), "scale": (1, 1, 1), "times": (2, 2, 4), "dot": (2, 3, 4),
                    "mm": (2, 2, 3), "mv": (2, 2, 3), "outer": (3, 1, 3), "transpose": (3, 0, 3), "transform": (2, 2, 3), "sum": (2, 2, 2),
                    # Two levels: a line, then a round and a line.
                    "product": (3, 3, 5)}
        for word, (text, e) in KINDS.items():
            self.assertEqual(large_counts(plan_of(97, text, e)), expected[word])

    def test_joinings(self):
        # The rounds of dot; then the mix and a round with its answer and the value, for two claims.
        self.assertEqual(large_counts(plan_of(97, "vector a 1", "dot(a, a)")), (1 + 2, 2 + 2, 2 + 1 + 2))
        # Three claims about a number: a mix and a value.
        self.assertEqual(large_counts(plan_of(97, "number a", "a * a + a")), (1, 3, 2))
        # What the claim does not need is not asked.
        self.assertEqual(large_counts(plan_of(97, "vector a 2\nvector b 2\nlet c = dot(a, b)", "a")), (2, 0, 2))


class PlacesTest(unittest.TestCase):
    """Point 27.8."""

    def places(self, plan):
        """The places of all answers, in their order."""
        found = []
        for at in range(len(plan[2]) - 1, -1, -1):
            count, word = uses(plan[2], plan[4])[at], plan[2][at][0]
            if count == 0:
                continue
            if count > 1:
                found += [(at, "join", k) for k in range(sum(plan[3][at]))] + [(at, "join", "end")]
            if word == "product":
                for level in range(plan[3][plan[2][at][1]][0]):
                    found += [(at, level, k) for k in range(level)] + [(at, level, "values")]
            elif word not in ("input", "number", "transpose"):
                x = plan[3][plan[2][at][1]]
                rounds = {"sum": sum(x), "times": sum(x), "dot": sum(x), "transform": sum(x), "mm": x[-1:] and x[-1], "mv": x[-1:] and x[-1]}.get(word, 0)
                found += [(at, 0, k) for k in range(rounds)] + ([(at, 0, "values")] if word != "sum" else [])
        return found

    def test_every_answer(self):
        """Each answer with another first number, of another length, or with a wrong number is refused at its own place."""
        for text, e in tuple(KINDS.values()) + SEVERAL:
            plan = plan_of(GREATEST, text, e)
            many, _, _ = large_counts(plan)
            inputs, throws = inputs_of(plan, 6), Numbers(6).many(many, GREATEST)
            told, claimed = large_answers(plan, inputs, throws), result_of(plan, inputs)
            places = self.places(plan)
            self.assertEqual(len(places), len(told))
            for at, place in enumerate(places):
                answer = told[at]
                for wrong in ([(answer[0] + 1) % GREATEST] + answer[1:], answer[:-1], answer + [0], [], [answer[0] - GREATEST] + answer[1:], answer[:-1] + [GREATEST]):
                    sent = told[:at] + [wrong] + told[at + 1:]
                    self.assertEqual(judge_large(plan, inputs, claimed, throws, sent), ("refused",) + place)
                    self.assertIsNone(blame_large(plan, inputs, claimed, throws, sent))

    def test_inputs_and_numbers(self):
        plan = plan_of(97, "vector a 1", "a")
        self.assertEqual(judge_large(plan, [[3, 4]], [3, 5], [2], []), ("refused", 0, "input"))
        self.assertEqual(judge_large(plan, [[3, 4]], [3, 5], [0], []), ("believed",))
        plan = plan_of(97, "number a", "5")
        self.assertEqual([judge_large(plan, [[3]], [number], [], []) for number in (5, 6)], [("believed",), ("refused", 1, "number")])
        # Nodes are asked from the last one on: the number 5 is node 1, the input node 0.
        plan = plan_of(97, "number a", "5 + a")
        self.assertEqual(judge_large(plan, [[3]], [8], [], [[5, 3]]), ("believed",))
        self.assertEqual(judge_large(plan, [[3]], [8], [], [[4, 4]]), ("refused", 1, "number"))
        self.assertEqual(judge_large(plan, [[3]], [9], [], [[5, 4]]), ("refused", 0, "input"))
        self.assertEqual(judge_large(plan, [[3]], [9], [], [[5, 3]]), ("refused", 2, 0, "values"))
        # Of two inputs the last one is compared first.
        plan = plan_of(97, "number a\nnumber b", "a + b")
        self.assertEqual(judge_large(plan, [[3], [4]], [7], [], [[4, 3]]), ("refused", 1, "input"))

    def test_the_order_of_the_claims(self):
        """Claims come from nodes with higher numbers first, and of a node from its first operand first."""
        plan = plan_of(97, "number a", "(a + 1) - a")
        # The claims about a are first that of the difference, then that of the sum.
        self.assertEqual(plan[2], [("input", 0), ("number", 1), ("add", 0, 1), ("sub", 2, 0)])
        for mix in (0, 1, 5):
            fits = [number for number in range(97) if judge_large(plan, [[3]], [0], [mix], [[8, 8], [7, 1], [number]]) != ("refused", 0, "join", "end")]
            expected = [number for number in range(97) if (number * (1 + mix) - 8 - 7 * mix) % 97 == 0]
            self.assertEqual(fits, expected)

    def test_changed_answers(self):
        """What comes of them is what the plain calculation tells."""
        results = set()
        for plan, inputs, numbers in samples((5, 97), range(60)):
            p, tables = plan[1], tables_of(plan, inputs)
            many, answers, _ = large_counts(plan)
            throws = numbers.many(many, p)
            honest = large_answers(plan, inputs, throws)
            for again in range(4):
                claimed, told = list(tables[plan[4]]), deepcopy(honest)
                if again % 2:
                    claimed[-1] = (claimed[-1] + 1) % p
                if answers and again != 1:
                    changed = told[numbers.below(answers)]
                    changed[numbers.below(len(changed))] = numbers.below(p)
                talk = PlainTalk(plan, tables, claimed, throws, told)
                result = judge_large(plan, inputs, claimed, throws, told)
                self.assertEqual((result, blame_large(plan, inputs, claimed, throws, told)), (talk.result, talk.place))
                results.add(result[-1])
        self.assertLessEqual({"believed", "values", "end", "input", 0, 1}, results)


class BlameTest(unittest.TestCase):
    """Point 27.9: false claims over all rows of throws."""

    def talk(self, plan, inputs, wrong):
        p, tables = plan[1], tables_of(plan, inputs)

        def run(throws, seed):
            honest = large_answers(plan, inputs, throws)
            told = bluffed(lambda sent: judge_large(plan, inputs, wrong, throws, sent), honest, p, seed)
            result, place = judge_large(plan, inputs, wrong, throws, told), blame_large(plan, inputs, wrong, throws, told)
            plain = PlainTalk(plan, tables, wrong, throws, told)
            self.assertEqual((result, place), (plain.result, plain.place))
            return result, place

        return run

    def test_all_throws(self):
        kinds = {}
        for at, (text, e) in enumerate(tuple(KINDS.values()) + SEVERAL):
            plan = plan_of(5, text, e)
            inputs = inputs_of(plan, 3)
            wrong = result_of(plan, inputs)
            wrong[-1] = (wrong[-1] + 1) % 5
            many, _, share = large_counts(plan)
            found = counted(self, 5, many, share, self.talk(plan, inputs, wrong), seeds=(1, 2))
            kinds.update({place[:1] + place[2:]: plan[2][place[1]][0] if len(place) > 1 else None for place in found})
        self.assertLessEqual({("outputs",), ("mix",), ("join", 0), ("round", 0, 0), ("round", 1, 0), ("line", 0), ("line", 1)}, set(kinds))

    def test_false_in_several_places(self):
        kinds = {}
        for text, e in (("vector a 2\nvector b 2", "product(a) + dot(a, b)"), ("matrix a 1 1", "mm(a, a)"), ("vector a 1", "transform(a) * a - a"),
                        ("matrix a 1 1\nvector b 1", "dot(mv(a, b), b)"), ("vector a 1", "sum(outer(a, a))"), ("vector a 3", "product(a)")):
            plan = plan_of(5, text, e)
            inputs = inputs_of(plan, 4)
            wrong = result_of(plan, inputs)
            wrong[0] = (wrong[0] + 2) % 5
            many, _, share = large_counts(plan)
            step = 5 ** many // 1500 * 5 + 1
            kinds.update(counted(self, 5, many, share, self.talk(plan, inputs, wrong), seeds=(1, 2), step=step))
        names = {place[0] for place in kinds}
        self.assertEqual(names, {"outputs", "mix", "join", "round", "line"})

    def test_samples(self):
        """Larger expressions with a few rows of throws."""
        names = set()
        for plan, inputs, numbers in samples((5,), range(120), 1):
            many, answers, _ = large_counts(plan)
            if 0 < many < 15 and answers < 15:
                wrong = result_of(plan, inputs)
                wrong[-1] = (wrong[-1] + 1) % 5
                for seed in range(5):
                    result, place = self.talk(plan, inputs, wrong)(numbers.many(many, 5), seed)
                    self.assertEqual(place is not None, result == ("believed",))
                    names.add(place and place[0])
        self.assertLessEqual({None, "outputs", "mix"}, names)

    def test_a_true_claim_has_no_blame(self):
        for text, e in SEVERAL[:4]:
            plan = plan_of(5, text, e)
            inputs = inputs_of(plan, 3)
            claimed = result_of(plan, inputs)
            many, _, _ = large_counts(plan)
            for throws in product(range(5), repeat=min(many, 3)):
                throws = list(throws) + [2] * (many - len(throws))
                honest = large_answers(plan, inputs, throws)
                told = bluffed(lambda sent: judge_large(plan, inputs, claimed, throws, sent), honest, 5, 1)
                self.assertIsNone(blame_large(plan, inputs, claimed, throws, told))


class ErrorsTest(unittest.TestCase):
    def wrong(self, kind, field, word, **changes):
        plan = plan_of(97, "vector a 1\nvector b 1", "dot(a, b)")
        given = dict(plan=plan, inputs=[[1, 2], [3, 4]], claimed=[11], throws=[5], answers=[[3, 8, 15], [6, 8]])
        self.assertEqual(judge_large(*given.values()), ("believed",))
        given.update(changes)
        for function in (judge_large, blame_large):
            raised(self, kind, field, word, function, *given.values())
        if word not in ("outputs", "answers"):
            raised(self, kind, field, word, large_answers, given["plan"], given["inputs"], given["throws"])

    def test_inputs(self):
        small = plan_of(3, "vector a 1\nvector b 1", "dot(a, b)")
        for inputs in (None, [], [[1, 2]], [[1, 2], [3, 4], [5]], [[1], [3, 4]], [[1, 2], [3, 4, 5, 6]], [[1, 2], [3, 97]], [[-1, 2], [3, 4]], [[1, True], [3, 4]], [[1, 2], None]):
            self.wrong(CircuitError, "part", "inputs", inputs=inputs, claimed=None, throws=[], answers=[])
        self.wrong(CircuitError, "part", "inputs", plan=small, inputs=[[1, 2], [3, 0]], claimed=None, throws=[])
        # An input that the claim does not need is looked at, too.
        plan = plan_of(97, "number a\nvector b 1", "a")
        self.wrong(CircuitError, "part", "inputs", plan=plan, inputs=[[1], [2]], claimed=[1], throws=[], answers=[])

    def test_outputs(self):
        for claimed in (None, [], [11, 0], [97], [-1], [True], (11,)):
            self.wrong(CircuitError, "part", "outputs", claimed=claimed, throws=[], answers=[])
        small = plan_of(3, "number a", "a")
        self.wrong(CircuitError, "part", "outputs", plan=small, inputs=[[1]], claimed=[3], throws=[])

    def test_modulus(self):
        for p in (2, 3):
            self.wrong(CircuitError, "part", "modulus", plan=plan_of(p, "number a", "a"), inputs=[[1]], claimed=[1], throws=[7], answers=[7])
        self.assertEqual(judge_large(plan_of(5, "number a", "a"), [[1]], [1], [], []), ("believed",))
        # The modulus is greater than the number of the claims about every node that is needed.
        for many in (4, 5, 6):
            plan = plan_of(5, "number a", " + ".join(["a"] * many))
            if many == 4:
                self.assertEqual(large_counts(plan)[0], 1)
                told = large_answers(plan, [[2]], [3])
                self.assertEqual(judge_large(plan, [[2]], [3], [3], told), ("believed",))
            else:
                self.wrong(CircuitError, "part", "modulus", plan=plan, inputs=[[2]], claimed=[0], throws=[], answers=[])
        plan = plan_of(5, "number a\nlet b = " + " + ".join(["a"] * 7), "a")
        self.assertEqual(judge_large(plan, [[2]], [2], [], []), ("believed",))
        plan = plan_of(7, "number a", " + ".join(["a"] * 6))
        self.assertEqual(len(large_answers(plan, [[2]], [3])), 6)

    def test_throws_and_answers(self):
        for throws in ([], [5, 6], [97, 97]):
            self.wrong(TalkError, "step", "throws", throws=throws, answers=[])
        for throws in ([97], [-1]):
            self.wrong(TalkError, "step", "throw", throws=throws, answers=[])
            # It matters even if it is not taken.
            self.wrong(TalkError, "step", "throw", throws=throws, claimed=[12])
        for answers in ([], [[3, 8, 15]], [[3, 8, 15], [6, 8], [1]]):
            self.wrong(TalkError, "step", "answers", answers=answers)
            self.wrong(TalkError, "step", "answers", answers=answers, claimed=[12])


if __name__ == "__main__":
    unittest.main()
