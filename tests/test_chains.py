"""Points 21.1 to 21.7: chains of circuits."""

import unittest
from itertools import product

from layerask.answering import Answerer, answers
from layerask.asking import Asker, judge
from layerask.blame import blame
from layerask.bluffing import Bluffer
from layerask.chains import (ChainAsker, blame_chain, chain_answers, chain_most, chain_plan, chain_share, chain_throws,
                             chain_work, checked_chain, judge_chain, run_chain)
from layerask.counts import most_believed, plan, share, throws as throws_of, told_work
from layerask.errors import CircuitError, FieldError, SizeError, TalkError
from plain import (GREATEST, Numbers, kept, plain_answers, plain_blame, raised, sample_circuit, sample_rows, throw_count,
                   true_outputs, unshared)

SQUARE = ("circuit", 97, [0, 0], [[("mul", 1, 0, 0)]])

# For each chain the bits of its rows, and the widths of its links in the order in which they run.
SHAPES = ((0, [[0, 0]]), (1, [[0, 0], [0, 0]]), (0, [[1, 2], [0, 1]]), (1, [[1, 0, 1], [0, 1]]), (2, [[0, 1], [1, 0], [0, 1]]),
          (0, [[2, 1], [1, 2, 2], [0, 0, 1]]), (1, [[1, 1], [1, 1], [1, 1], [1, 1]]), (0, [[0, 2]]), (3, [[0, 0], [0, 1, 0]]))


def sample_chain(p, links, seed):
    return [sample_circuit(p, widths, seed + 10 * at) for at, widths in enumerate(links)]


def whole(links):
    """Point 21.7: the one circuit of a chain."""
    widths, layers = [], []
    for _, _, link_widths, link_layers in reversed(links):
        widths += link_widths[:-1]
        layers += link_layers
    return ("circuit", links[0][1], widths + [links[0][2][-1]], layers)


def places_of(links):
    """For each layer of the whole circuit its link and its number there, and for the inputs those of link 0."""
    found = []
    for at in range(len(links) - 1, -1, -1):
        found += [(at, layer) for layer in range(len(links[at][3]))]
    return found + [(0, len(links[0][3]))]


def in_links(links, place):
    """A result or a blame of the whole circuit, as that of the chain."""
    if place is None or len(place) == 1:
        return place
    return (place[0],) + places_of(links)[place[1]] + place[2:]


def by_links(links, told):
    """The answers to all layers, link by link, the last link first."""
    found, left = [], list(told)
    for link in reversed(links):
        found.append([left.pop(0) for _ in link[3]])
    return found


def flat(told):
    return [pair for link in told for pair in link]


class Sample:
    def __init__(self, p, dims, links, seed):
        self.p, self.dims = p, dims
        self.links = sample_chain(p, links, seed)
        self.rows = sample_rows(self.links[0], dims, seed)
        self.states = [self.rows]
        for link in self.links:
            self.states.append(true_outputs(link, self.states[-1]))
        self.whole = whole(self.links)
        self.throws = Numbers(seed).many(throw_count(self.whole, dims), p)


def samples(moduli=(5, 97, GREATEST)):
    for p in moduli:
        for seed, (dims, links) in enumerate(SHAPES):
            yield Sample(p, dims, links, seed)


class CheckTest(unittest.TestCase):
    """Points 21.1 and 21.2."""

    def test_the_list_itself(self):
        for sample in samples():
            self.assertIs(checked_chain(sample.links), sample.links)
        for many in (1, 64):
            links = [SQUARE] * many
            self.assertIs(checked_chain(links), links)

    def wrong(self, kind, field, word, links):
        rows = [[1]]
        for function, given in ((checked_chain, ()), (run_chain, (rows,)), (ChainAsker, (rows, rows)), (judge_chain, (rows, rows, [], [])),
                                (blame_chain, (rows, rows, [], []))):
            raised(self, kind, field, word, function, links, *given)

    def test_lists(self):
        for thing in (None, [], (), (SQUARE,), SQUARE, 5, "chain", {}, {0: SQUARE}):
            self.wrong(CircuitError, "part", "chain", thing)
        for many in (65, 66, 1000):
            self.wrong(SizeError, "limit", "links", [SQUARE] * many)
        self.wrong(SizeError, "limit", "links", [None] * 65)

    def test_links(self):
        self.wrong(CircuitError, "part", "circuit", [None])
        self.wrong(CircuitError, "part", "circuit", [SQUARE, None])
        self.wrong(CircuitError, "part", "circuit", [list(SQUARE)])
        self.wrong(FieldError, "number", 4, [("circuit", 4) + SQUARE[2:]])
        self.wrong(FieldError, "number", 4, [SQUARE, ("circuit", 4) + SQUARE[2:], None])
        self.wrong(SizeError, "limit", "layers", [SQUARE, ("circuit", 97, [0] * 66, [None] * 65)])
        self.wrong(SizeError, "limit", "columns", [SQUARE, ("circuit", 97, [9, 0], [None])])
        self.wrong(CircuitError, "part", "layer", [SQUARE, ("circuit", 97, [0, 0], [[]])])
        self.wrong(CircuitError, "part", "gate", [SQUARE, ("circuit", 97, [0, 0], [[None]])])

    def test_neighbours(self):
        other = ("circuit", 101, [0, 0], [[("mul", 1, 0, 0)]])
        wide = ("circuit", 97, [1, 0], [[("mul", 1, 0, 0)] * 2])
        narrow = ("circuit", 97, [0, 1], [[("mul", 1, 0, 1)]])
        self.wrong(CircuitError, "part", "chain", [SQUARE, other])
        self.wrong(CircuitError, "part", "chain", [SQUARE, narrow])
        self.wrong(CircuitError, "part", "chain", [wide, SQUARE])
        self.wrong(CircuitError, "part", "chain", [SQUARE, SQUARE, wide, wide])
        for links in ([wide, narrow], [narrow, wide], [narrow, SQUARE], [SQUARE, wide]):
            self.assertIs(checked_chain(links), links)

    def test_links_come_before_neighbours(self):
        wide = ("circuit", 97, [1, 0], [[("mul", 1, 0, 0)] * 2])
        self.wrong(CircuitError, "part", "gate", [wide, SQUARE, ("circuit", 97, [0, 0], [[None]])])


class RunTest(unittest.TestCase):
    def test_states(self):
        for sample in samples():
            self.assertEqual(kept(self, run_chain, sample.links, sample.rows), sample.states)

    def test_states_share_no_list(self):
        links = [("circuit", 97, [0, 0], [[("lin", 1, 0, 0, 0)]])] * 2
        states = run_chain(links, [[3], [4]])
        states[0][0].clear()
        states[1].clear()
        self.assertEqual(states[2], [[3], [4]])

    def test_errors_of_the_rows(self):
        for rows in (None, [], [[1]] * 3, ((1,),)):
            raised(self, CircuitError, "part", "rows", run_chain, [SQUARE], rows)
        raised(self, SizeError, "limit", "rows", run_chain, [SQUARE], [None] * 2048)
        for row in ([], [1, 2], [97], [-1], [True], (1,)):
            raised(self, CircuitError, "part", "row", run_chain, [SQUARE], [row])
        raised(self, CircuitError, "part", "chain", run_chain, [], None)

    def test_many_rows(self):
        self.assertEqual(run_chain([SQUARE] * 3, [[k % 97] for k in range(1024)])[3], [[pow(k, 8, 97)] for k in range(1024)])


class CountTest(unittest.TestCase):
    """Point 21.6."""

    def test_those_of_the_whole_circuit(self):
        for sample in samples():
            for dims in (0, 1, 3, 10):
                given = (sample.links, dims)
                self.assertEqual(kept(self, chain_plan, *given), plan(sample.whole, dims))
                self.assertEqual(kept(self, chain_throws, *given), throws_of(sample.whole, dims))
                self.assertEqual(kept(self, chain_share, *given), share(sample.whole, dims))
                self.assertEqual(kept(self, chain_most, *given), most_believed(sample.whole, dims))
                self.assertEqual(kept(self, chain_work, *given), told_work(sample.whole, dims))

    def test_by_hand(self):
        links = [("circuit", 97, [1, 2], [[("mul", 1, 0, 1), ("mul", 1, 2, 3)]]), ("circuit", 97, [0, 1], [[("mul", 1, 0, 1)]])]
        self.assertEqual(chain_plan(links, 1), [3, 2, 2, 1, 3, 2, 2, 2, 2, 2])
        self.assertEqual(chain_throws(links, 1), 11)
        self.assertEqual(chain_share(links, 1), 1 + 21)
        # The last state and the inputs, the values of all answers, and one and two columns.
        self.assertEqual(chain_work(links, 1), 2 + 8 + (21 + 10) + 3)
        self.assertEqual(chain_most(links, 1), 22 * 97 ** 10)
        self.assertEqual(chain_most([("circuit", 5) + SQUARE[2:]] * 3, 1), 5 ** 7)

    def test_long_chains(self):
        link = sample_circuit(GREATEST, [0] * 65, 3)
        links = [link] * 64
        self.assertEqual(chain_plan(links, 2), [3, 3, 0] * 4096)
        self.assertEqual(chain_throws(links, 2), 2 + 3 * 4096)
        self.assertEqual(chain_share(links, 2), 2 + 6 * 4096)
        self.assertEqual(chain_work(links, 2), 8 + 9 * 4096 + 4096)
        self.assertEqual(chain_most([SQUARE] * 64, 0), 0)
        self.assertEqual(chain_most(links, 2), (2 + 6 * 4096) * GREATEST ** (1 + 3 * 4096))


class HonestTest(unittest.TestCase):
    def test_answers(self):
        for sample in samples((5, 97)):
            told = kept(self, chain_answers, sample.links, sample.rows, sample.throws)
            self.assertEqual(told, by_links(sample.links, answers(Answerer(sample.whole, sample.rows), sample.throws)))
            if sum(max(widths) for _, _, widths, _ in sample.links) < 6:
                self.assertEqual(flat(told), plain_answers(sample.whole, sample.rows, sample.throws))

    def test_believed(self):
        for sample in samples():
            told = chain_answers(sample.links, sample.rows, sample.throws)
            given = (sample.links, sample.rows, sample.states[-1], sample.throws, told)
            self.assertEqual(kept(self, judge_chain, *given), ("believed",))
            self.assertIsNone(kept(self, blame_chain, *given))

    def test_all_throws(self):
        links = sample_chain(5, [[0, 0], [1, 0]], 2)
        rows = [[3]]
        states = run_chain(links, rows)
        for throws in product(range(5), repeat=chain_throws(links, 0)):
            told = chain_answers(links, rows, list(throws))
            self.assertEqual(judge_chain(links, rows, states[-1], list(throws), told), ("believed",))

    def test_the_largest_chains(self):
        for dims, links in ((0, [sample_circuit(GREATEST, [0] * 65, 3)] * 64), (10, [SQUARE] * 64), (0, [sample_circuit(97, [4, 8, 4], 1)] * 17)):
            p = links[0][1]
            rows = sample_rows(links[0], dims, 5)
            throws = Numbers(6).many(chain_throws(links, dims), p)
            told = chain_answers(links, rows, throws)
            states = run_chain(links, rows)
            self.assertEqual(judge_chain(links, rows, states[-1], throws, told), ("believed",))


class AskerTest(unittest.TestCase):
    def said(self, sample):
        """All throws and answers in their order, as pairs of a kind and a thing."""
        thrown = list(sample.throws)
        found = [("throw", thrown.pop(0)) for _ in range(sample.dims + sample.whole[2][0])]
        for polys, line in flat(chain_answers(sample.links, sample.rows, sample.throws)):
            for poly in polys:
                found += [("polynomial", poly), ("throw", thrown.pop(0))]
            found += [("line", line), ("throw", thrown.pop(0))]
        return found

    def test_step_by_step(self):
        """It wants, answers and counts what the asker of the whole circuit does."""
        for sample in samples():
            outputs = sample.states[-1]
            asker = kept(self, ChainAsker, sample.links, sample.rows, outputs)
            other = Asker(sample.whole, sample.rows, outputs)
            for kind, thing in self.said(sample):
                self.assertEqual((asker.wants(), asker.result, asker.work), (kind, None, other.work))
                self.assertEqual(other.wants(), kind)
                if kind == "throw":
                    self.assertIsNone(asker.throw(thing))
                    other.throw(thing)
                else:
                    self.assertIs(kept(self, asker.answer, thing), True)
                    other.answer(thing)
            self.assertEqual((asker.wants(), asker.result), ("nothing", ("believed",)))
            self.assertEqual(asker.work, chain_work(sample.links, sample.dims))

    def test_steps_at_wrong_places(self):
        for sample in samples((97,)):
            asker = ChainAsker(sample.links, sample.rows, sample.states[-1])
            for kind, thing in self.said(sample):
                if kind == "throw":
                    raised(self, TalkError, "step", "answer", asker.answer, [1, 2])
                    for number in (-1, 97, 10 ** 30):
                        raised(self, TalkError, "step", "throw", asker.throw, number)
                    asker.throw(thing)
                else:
                    raised(self, TalkError, "step", "throw", asker.throw, 5)
                    asker.answer(thing)
            raised(self, TalkError, "step", "throw", asker.throw, 5)
            raised(self, TalkError, "step", "answer", asker.answer, [])

    def test_refused_at_every_place(self):
        """A changed answer is refused where that of the whole circuit is."""
        found = set()
        for sample in samples((97, GREATEST)):
            told = chain_answers(sample.links, sample.rows, sample.throws)
            for link in range(len(told)):
                for layer in range(len(told[link])):
                    polys, line = told[link][layer]
                    for at in range(len(polys) + 1):
                        changed = [list(pairs) for pairs in told]
                        if at < len(polys):
                            new = list(polys)
                            new[at] = [(polys[at][0] + 1) % sample.p] + polys[at][1:]
                            changed[link][layer] = (new, line)
                        else:
                            changed[link][layer] = (polys, line + [0])
                        result = judge_chain(sample.links, sample.rows, sample.states[-1], sample.throws, changed)
                        place = (len(sample.links) - 1 - link, layer, at if at < len(polys) else "end")
                        self.assertEqual(result, ("refused",) + place)
                        found.add(place)
        self.assertGreater(len(found), 30)

    def test_refused_at_the_inputs(self):
        for sample in samples((97,)):
            told = chain_answers(sample.links, sample.rows, sample.throws)
            rows = [[(number + 1) % 97 for number in row] for row in sample.rows]
            result = judge_chain(sample.links, rows, sample.states[-1], sample.throws, told)
            self.assertEqual(result, ("refused", 0, len(sample.links[0][3]), "inputs"))

    def test_answers_that_do_not_fit_end_it(self):
        asker = ChainAsker([SQUARE, SQUARE], [[3]], [[80]])
        self.assertEqual(asker.wants(), "line")
        self.assertIs(asker.answer([9]), False)
        self.assertEqual((asker.wants(), asker.result), ("nothing", ("refused", 1, 0, "end")))
        raised(self, TalkError, "step", "answer", asker.answer, [9])

    def test_later_changes_do_not_count(self):
        links, rows, outputs = [list(SQUARE)] * 0 + [("circuit", 97, [0, 0], [[("mul", 1, 0, 0)]]) for _ in range(2)], [[3]], [[81]]
        told = chain_answers(links, rows, [5, 6])
        asker = ChainAsker(links, rows, outputs)
        links[0][3][0][0] = ("mul", 5, 0, 0)
        links.clear()
        rows[0][0] = 4
        outputs[0][0] = 5
        for pairs, number in zip(told, [5, 6]):
            self.assertTrue(asker.answer(pairs[0][1]))
            asker.throw(number)
        self.assertEqual(asker.result, ("believed",))


class ErrorTest(unittest.TestCase):
    def given(self, **changes):
        links = [SQUARE, SQUARE]
        told = dict(links=links, rows=[[3]], outputs=[[81]], throws=[5, 6], answers=[[([], [9])], [([], [3])]])
        told.update(changes)
        return list(told.values())

    def wrong(self, kind, field, word, **changes):
        given = self.given(**changes)
        for function in (judge_chain, blame_chain):
            raised(self, kind, field, word, function, *given)
        if not set(changes) & {"throws", "answers"}:
            raised(self, kind, field, word, ChainAsker, *given[:3])

    def test_modulus(self):
        def links(p, widths):
            return [sample_circuit(p, shape, 1) for shape in widths]

        for p, widths in ((2, [[0, 0]]), (3, [[0, 0]]), (5, [[0, 5]]), (5, [[5, 0], [0, 5]]), (5, [[0, 0], [0, 5, 0]]), (7, [[0, 7]]),
                          (5, [[0, 5, 0], [0, 0]]), (7, [[7, 0], [0, 0, 7]])):
            self.wrong(CircuitError, "part", "modulus", links=links(p, widths), rows=None, outputs=None)
        # The outputs of the last link may have any width.
        for p, widths in ((5, [[5, 0]]), (5, [[4, 4], [5, 4]]), (7, [[0, 6]])):
            raised(self, CircuitError, "part", "rows", ChainAsker, links(p, widths), None, None)

    def test_rows(self):
        for rows in (None, [], [[3]] * 3):
            self.wrong(CircuitError, "part", "rows", rows=rows, outputs=None)
        self.wrong(SizeError, "limit", "rows", rows=[[3]] * 2048, outputs=None)
        self.wrong(CircuitError, "part", "row", rows=[[3, 4]], outputs=None)
        self.wrong(CircuitError, "part", "row", rows=[[97]], outputs=None)

    def test_outputs(self):
        for outputs in (None, [], [[81], [81]], [[]], [[81, 0]], [[97]], [[-1]], [[True]], [(81,)], ([81],)):
            self.wrong(CircuitError, "part", "outputs", outputs=outputs)

    def test_rows_and_outputs_of_the_right_links(self):
        links = [sample_circuit(97, [1, 2], 1), sample_circuit(97, [0, 1], 2)]
        self.wrong(CircuitError, "part", "row", links=links, rows=[[1, 2]], outputs=[[1]])
        self.wrong(CircuitError, "part", "outputs", links=links, rows=[[1, 2, 3, 4]], outputs=[[1, 2]])
        self.assertEqual(ChainAsker(links, [[1, 2, 3, 4]], [[1]]).wants(), "polynomial")

    def test_throws(self):
        for throws in ([], [5], [5, 6, 7]):
            self.wrong(TalkError, "step", "throws", throws=throws, answers=[])
        self.wrong(TalkError, "step", "throw", throws=[97, 6])
        self.wrong(TalkError, "step", "throw", throws=[5, -1])
        # A throw that is not taken is not looked at.
        given = self.given(throws=[5, 97], answers=[[([], [9])], [([], [4])]])
        self.assertEqual(judge_chain(*given), ("refused", 0, 0, "end"))

    def test_answers(self):
        pair = ([], [9])
        for told in ([], [[pair]], [[pair]] * 3, [[pair], []], [[], [pair]], [[pair, pair], [pair]], [[pair], [pair, pair]], [[([[1]], [9])], [pair]],
                     [[pair], [([[1, 2, 3]], [3])]], [[pair, pair]], [[pair], None], [[pair], [[[], [3]]]], [[pair], [None]]):
            self.wrong(TalkError, "step", "answers", answers=told)
        links = [sample_circuit(97, [0, 1], 1), sample_circuit(97, [0, 0, 0], 2)]
        polys = [[1, 2, 3]] * 2
        for told in ([[pair], [pair, (polys, [1, 2])]], [[pair, pair], [(polys[:1], [1, 2])]], [[pair, pair], [(polys * 2, [1, 2])]],
                     [[(polys, [1, 2])], [pair, pair]]):
            self.wrong(TalkError, "step", "answers", links=links, rows=[[1, 2]], outputs=[[1]], throws=[1, 2, 3, 4, 5], answers=told)

    def test_the_order(self):
        self.wrong(CircuitError, "part", "modulus", links=[("circuit", 3) + SQUARE[2:]], rows=None)
        self.wrong(CircuitError, "part", "outputs", outputs=None, throws=[], answers=[])
        self.wrong(TalkError, "step", "throws", throws=[97], answers=[])
        self.wrong(TalkError, "step", "answers", throws=[97, 6], answers=[])


class BlameTest(unittest.TestCase):
    """Point 21.5."""

    def test_those_of_the_whole_circuit(self):
        kinds = set()
        for p in (5, 97):
            for dims, shapes, seed in ((0, [[0, 0], [1, 0]], 1), (1, [[1, 0], [0, 1]], 2), (0, [[1, 0, 1], [1, 1]], 3), (0, [[0, 1], [0, 0], [1, 0]], 4),
                                       (1, [[0, 0], [1, 0]], 5), (0, [[1, 1], [1, 1], [1, 1]], 6)):
                links = sample_chain(p, shapes, seed)
                one = whole(links)
                rows = sample_rows(links[0], dims, seed)
                outputs = run_chain(links, rows)[-1]
                outputs[-1][-1] = (outputs[-1][-1] + 1) % p
                table = [row[at] for at in range(len(outputs[0])) for row in outputs]
                for again in range(150):
                    numbers = Numbers(again)
                    throws = numbers.many(throw_count(one, dims), p)
                    told = answers(Bluffer(one, rows, table, numbers.many(12, p)), throws)
                    given = (links, rows, outputs, throws, by_links(links, told))
                    self.assertEqual(judge_chain(*given), in_links(links, judge(one, rows, outputs, throws, told)))
                    found = blame_chain(*given)
                    self.assertEqual(found, in_links(links, blame(one, rows, outputs, throws, told)))
                    if judge_chain(*given) == ("believed",):
                        self.assertEqual(found, in_links(links, plain_blame(one, rows, outputs, throws, told)))
                        kinds.add((found[0], found[1] if len(found) > 1 else None))
                    else:
                        self.assertIsNone(found)
        self.assertLessEqual({("outputs", None), ("round", 0), ("round", 1), ("line", 1), ("line", 0)}, kinds)

    def test_nothing_is_changed(self):
        links = [SQUARE, ("circuit", 97, [1, 0], [[("lin", 1, 0, 0, 0), ("lin", 2, 0, 0, 0)]])]
        given = (links, [[3]], [[9, 20]], [0, 4, 5], [[([], [9])], [([], [3])]])
        # At the first point the claimed outputs agree with 9 and 18.
        self.assertEqual(kept(self, judge_chain, *given), ("believed",))
        self.assertEqual(kept(self, blame_chain, *given), ("outputs",))

    def test_all_throws(self):
        """The number of the throws that let a false last state by is at most the told one."""
        links = [("circuit", 5, [0, 1], [[("mul", 1, 0, 1)]]), ("circuit", 5, [1, 0], [[("lin", 1, 0, 0, 0), ("mul", 1, 0, 0)]])]
        one, rows = whole(links), [[2, 4]]
        outputs = run_chain(links, rows)[-1]
        outputs[0][1] = (outputs[0][1] + 1) % 5
        many, kinds = 0, set()
        for throws in product(range(5), repeat=chain_throws(links, 0)):
            told = by_links(links, answers(Bluffer(one, rows, outputs[0], [1, 2, 3]), list(throws)))
            if judge_chain(links, rows, outputs, list(throws), told) == ("believed",):
                many += 1
                kinds.add(blame_chain(links, rows, outputs, list(throws), told)[0])
        self.assertLessEqual(many, chain_most(links, 0))
        self.assertIn("outputs", kinds)

    def test_a_chain_that_is_too_large_for_one_circuit(self):
        links = [sample_circuit(97, [0] * 65, seed) for seed in range(3)]
        rows = [[5]]
        outputs = run_chain(links, rows)[-1]
        throws = Numbers(2).many(chain_throws(links, 0), 97)
        told = chain_answers(links, rows, throws)
        self.assertEqual(judge_chain(links, rows, outputs, throws, told), ("believed",))
        self.assertIsNone(blame_chain(links, rows, outputs, throws, told))
        outputs[0][0] = (outputs[0][0] + 1) % 97
        self.assertEqual(judge_chain(links, rows, outputs, throws, told), ("refused", 2, 0, "end"))


if __name__ == "__main__":
    unittest.main()
