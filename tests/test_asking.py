"""Points 10.1 to 10.3 and 11.3: the asker of a whole conversation."""

import unittest

from layerask.answering import Answerer, answers
from layerask.asking import Asker, judge
from layerask.counts import told_work
from layerask.errors import CircuitError, FieldError, SizeError, TalkError
from plain import (GREATEST, Numbers, kept, raised, sample_circuit, sample_rows, throw_count, true_outputs)

SHAPES = ((0, [0, 0]), (1, [0, 0]), (2, [1, 0]), (0, [0, 1]), (0, [2, 1]), (1, [1, 1]), (1, [1, 2]), (0, [1, 2, 1]),
          (1, [0, 1, 0]), (0, [0, 0, 0, 0]), (2, [1, 0, 2]))
GATE = ("lin", 1, 0, 0, 0)


class Talk:
    """A circuit, rows, the right outputs, throws and the honest answers."""

    def __init__(self, p, dims, widths, seed):
        self.p, self.dims = p, dims
        self.circuit = sample_circuit(p, widths, seed)
        self.rows = sample_rows(self.circuit, dims, seed)
        self.outputs = true_outputs(self.circuit, self.rows)
        self.throws = Numbers(seed).many(throw_count(self.circuit, dims), p)
        self.answers = answers(Answerer(self.circuit, self.rows), self.throws)
        self.last = len(widths) - 1

    def places(self):
        """What comes in a conversation, in its order: kind, layer, place in the layer, values."""
        found = [("throw", None, None)] * (self.dims + self.circuit[2][0])
        for layer, (polys, line) in enumerate(self.answers):
            for k, poly in enumerate(polys):
                found += [("polynomial", (layer, k), poly), ("throw", None, None)]
            found += [("line", (layer, "end"), line), ("throw", None, None)]
        return found

    def asker(self):
        return Asker(self.circuit, self.rows, self.outputs)

    def judged(self, **changes):
        told = dict(circuit=self.circuit, rows=self.rows, outputs=self.outputs, throws=self.throws, answers=self.answers)
        told.update(changes)
        return judge(**told)

    def changed(self, layer, place, values):
        """The answers with other values at one place."""
        found = [(list(polys), line) for polys, line in self.answers]
        if place == "end":
            found[layer] = (found[layer][0], values)
        else:
            found[layer][0][place] = values
        return found


def talks(moduli=(5, 97, GREATEST)):
    for p in moduli:
        for seed, (dims, widths) in enumerate(SHAPES):
            yield Talk(p, dims, widths, seed)


def state(asker):
    return (asker.wants(), asker.result, asker.work)


class ConversationTest(unittest.TestCase):
    def test_step_by_step(self):
        for talk in talks():
            asker = talk.asker()
            thrown = list(talk.throws)
            works = []
            for kind, _, values in talk.places():
                self.assertEqual((asker.wants(), asker.result), (kind, None))
                works.append(asker.work)
                if kind == "throw":
                    self.assertIsNone(asker.throw(thrown.pop(0)))
                else:
                    self.assertIs(kept(self, asker.answer, values), True)
            self.assertEqual((asker.wants(), asker.result), ("nothing", ("believed",)))
            self.assertEqual(asker.work, told_work(talk.circuit, talk.dims))
            self.assertEqual(works, sorted(works))

    def test_whole(self):
        for talk in talks():
            result = kept(self, judge, talk.circuit, talk.rows, talk.outputs, talk.throws, talk.answers)
            self.assertEqual(result, ("believed",))

    def test_changed_answers(self):
        """A value that is changed where it is compared is refused at its own place."""
        for talk in talks((97, GREATEST)):
            for kind, place, values in talk.places():
                if kind == "throw":
                    continue
                changes = [values + [0], values[:-1], [talk.p] + values[1:], [-1] + values[1:]]
                if kind == "polynomial":
                    changes += [[(values[0] + 1) % talk.p] + values[1:], values[:1] + [(values[1] - 1) % talk.p] + values[2:]]
                for other in changes:
                    told = talk.changed(*place, other)
                    self.assertEqual(talk.judged(answers=told), ("refused",) + place)

    def test_false_outputs(self):
        for talk in talks((GREATEST,)):
            outputs = [list(row) for row in talk.outputs]
            outputs[-1][-1] = (outputs[-1][-1] + 1) % GREATEST
            place = ("refused", 0, 0) if talk.answers[0][0] else ("refused", 0, "end")
            self.assertEqual(talk.judged(outputs=outputs), place)

    def test_false_inputs(self):
        """The answers for other rows, and their outputs, fit up to the last comparison."""
        for talk in talks((GREATEST,)):
            rows = [list(row) for row in talk.rows]
            rows[0][0] = (rows[0][0] + 1) % GREATEST
            self.assertEqual(talk.judged(rows=rows), ("refused", talk.last, "inputs"))

    def test_nothing_behind_the_end(self):
        for talk in talks((97,)):
            for end in ("believed", "refused"):
                asker = talk.asker()
                thrown = list(talk.throws)
                for kind, _, values in talk.places():
                    if kind == "throw":
                        asker.throw(thrown.pop(0))
                    elif end == "believed":
                        asker.answer(values)
                    else:
                        self.assertIs(asker.answer([]), False)
                        break
                self.assertEqual((asker.result[0], asker.wants()), (end, "nothing"))
                before = state(asker)
                raised(self, TalkError, "step", "throw", asker.throw, 0)
                raised(self, TalkError, "step", "answer", asker.answer, [0])
                self.assertEqual(state(asker), before)

    def test_wrong_steps_change_nothing(self):
        for talk in talks((5,)):
            asker = talk.asker()
            thrown = list(talk.throws)
            for kind, _, values in talk.places():
                before = state(asker)
                if kind == "throw":
                    raised(self, TalkError, "step", "answer", asker.answer, [0, 0, 0])
                    raised(self, TalkError, "step", "throw", asker.throw, 5)
                    raised(self, TalkError, "step", "throw", asker.throw, -1)
                    self.assertEqual(state(asker), before)
                    asker.throw(thrown.pop(0))
                else:
                    raised(self, TalkError, "step", "throw", asker.throw, 0)
                    self.assertEqual(state(asker), before)
                    asker.answer(values)
            self.assertEqual(asker.result, ("believed",))

    def test_nothing_is_shared(self):
        talk = Talk(97, 1, [1, 1], 5)
        asker = talk.asker()
        thrown, places = list(talk.throws), talk.places()
        outputs, rows = talk.outputs, talk.rows
        outputs[0][0] = (outputs[0][0] + 1) % 97
        rows[0][0] = (rows[0][0] + 1) % 97
        talk.circuit[3][0][0] = ("mul", 1, 0, 0)
        talk.circuit[2][1] = 0
        for kind, _, values in places:
            if kind == "throw":
                asker.throw(thrown.pop(0))
            else:
                asker.answer(values)
                values[0] = (values[0] + 1) % 97
        self.assertEqual(asker.result, ("believed",))


class WorkTest(unittest.TestCase):
    def test_no_greater_when_refused(self):
        for talk in talks((97,)):
            told = told_work(talk.circuit, talk.dims)
            for kind, place, values in talk.places():
                if kind == "throw":
                    continue
                for other in (values + [0] * 5000, [], [97] + values[1:]):
                    asker = talk.asker()
                    thrown = list(talk.throws)
                    for step, at, right in talk.places():
                        self.assertLessEqual(asker.work, told)
                        if step == "throw":
                            asker.throw(thrown.pop(0))
                        elif not asker.answer(other if at == place else right):
                            break
                    self.assertEqual(asker.result, ("refused",) + place)
                    self.assertLessEqual(asker.work, told)

    def test_the_tables_count(self):
        talk = Talk(97, 2, [1, 0, 2], 4)
        asker = talk.asker()
        thrown = list(talk.throws)
        for number in thrown[:3]:
            asker.throw(number)
        self.assertLessEqual(asker.work, 8)
        for kind, _, values in talk.places()[3:]:
            if kind == "throw":
                before = asker.work
                asker.throw(thrown[3])
                thrown.pop(3)
            else:
                asker.answer(values)
        self.assertEqual(asker.work - before, 16)


class ModulusTest(unittest.TestCase):
    def test_too_small(self):
        for p, widths in ((2, [0, 0]), (3, [0, 0]), (5, [0, 5]), (7, [0, 7]), (7, [0, 8]), (5, [0, 5, 0]), (7, [0, 8, 0])):
            circuit = sample_circuit(p, widths, 1)
            rows = sample_rows(circuit, 0, 1)
            raised(self, CircuitError, "part", "modulus", Asker, circuit, rows, true_outputs(circuit, rows))
            raised(self, CircuitError, "part", "modulus", Asker, circuit, None, None)
            raised(self, CircuitError, "part", "modulus", judge, circuit, None, None, None, None)

    def test_just_great_enough(self):
        for p, widths in ((5, [0, 0]), (5, [5, 0]), (5, [8, 4]), (7, [0, 6]), (11, [8, 8]), (5, [0, 4, 0])):
            talk = Talk(p, 0, widths, 2)
            self.assertEqual(talk.judged(), ("believed",))


class ErrorsTest(unittest.TestCase):
    def setUp(self):
        self.circuit = ("circuit", 97, [0, 1], [[("mul", 1, 0, 1)]])

    def both(self, kind, field, word, circuit, rows, outputs):
        raised(self, kind, field, word, Asker, circuit, rows, outputs)
        raised(self, kind, field, word, judge, circuit, rows, outputs, [], [])

    def test_order(self):
        """Each call has the fault told, and all later ones, too."""
        self.both(CircuitError, "part", "circuit", ("circuit", 4, [0], [[GATE]]), None, None)
        self.both(FieldError, "number", 4, ("circuit", 4, [0, 9], [[GATE]]), None, None)
        self.both(SizeError, "limit", "columns", ("circuit", 3, [0, 9], [None]), None, None)
        self.both(CircuitError, "part", "layer", ("circuit", 3, [0, 0], [None]), None, None)
        self.both(CircuitError, "part", "gate", ("circuit", 3, [0, 0], [[None]]), None, None)
        self.both(CircuitError, "part", "modulus", ("circuit", 3, [0, 0], [[GATE]]), None, None)
        self.both(CircuitError, "part", "rows", self.circuit, [None] * 3, None)
        self.both(SizeError, "limit", "rows", self.circuit, [None] * 2048, None)
        self.both(CircuitError, "part", "row", self.circuit, [[5, 97]], None)
        self.both(CircuitError, "part", "outputs", self.circuit, [[5, 7]], None)

    def test_outputs(self):
        rows = [[5, 7], [1, 2]]
        for outputs in (None, 5, (), "ab", [], [[35]], [[35], [2], [3]], ([35], [2]), [[35], None], [[35], 2], [[35], (2,)],
                        [[35], []], [[35], [2, 0]], [[35], [97]], [[-1], [2]], [[35], [True]], [[35], ["2"]]):
            self.both(CircuitError, "part", "outputs", self.circuit, rows, outputs)
        Asker(self.circuit, rows, [[96], [0]])

    def test_throws(self):
        talk = Talk(97, 1, [1, 2, 0], 3)
        for throws in ([], talk.throws[:-1], talk.throws + [0]):
            raised(self, TalkError, "step", "throws", judge, talk.circuit, talk.rows, talk.outputs, throws, talk.answers)
            raised(self, TalkError, "step", "throws", judge, talk.circuit, talk.rows, talk.outputs, throws, [])

    def test_answers(self):
        talk = Talk(97, 1, [1, 2, 0], 3)
        (polys, line), last = talk.answers
        wrong = [[], talk.answers[:1], talk.answers + [last], [(polys[:-1], line), last], [(polys + [[0]], line), last],
                 [(polys, line), ([], last[1])], [(polys,), last], [(polys, line, line), last],
                 [None, last], [(None, line), last], [[polys, line], last]]
        for told in wrong:
            raised(self, TalkError, "step", "answers", judge, talk.circuit, talk.rows, talk.outputs, talk.throws, told)
            throws = [97] + talk.throws[1:]
            raised(self, TalkError, "step", "answers", judge, talk.circuit, talk.rows, talk.outputs, throws, told)

    def test_a_throw_that_is_taken(self):
        for talk in talks((5,)):
            for at in range(len(talk.throws)):
                for number in (5, -1, 10 ** 20):
                    throws = talk.throws[:at] + [number] + talk.throws[at + 1:]
                    raised(self, TalkError, "step", "throw", judge, talk.circuit, talk.rows, talk.outputs, throws, talk.answers)

    def test_a_throw_that_is_not_taken(self):
        for talk in talks((5,)):
            thrown = talk.dims + talk.circuit[2][0]
            for kind, place, values in talk.places()[thrown:]:
                if kind == "throw":
                    thrown += 1
                else:
                    throws = talk.throws[:thrown] + [5] * (len(talk.throws) - thrown)
                    told = talk.changed(*place, [])
                    self.assertEqual(talk.judged(throws=throws, answers=told), ("refused",) + place)


if __name__ == "__main__":
    unittest.main()
