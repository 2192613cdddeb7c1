"""Points 12.1 to 12.4: answerers that bluff."""

import unittest
from itertools import product

from layerask.answering import Answerer, answers
from layerask.asking import judge
from layerask.blame import blame
from layerask.bluffing import Bluffer, Guesser, hopeful
from layerask.errors import CircuitError, FieldError, SizeError
from plain import (GREATEST, Numbers, kept, lists_in, plain_blame, plain_weights, poly_value, raised, sample_circuit,
                   sample_rows, split_throws, table_value, throw_count, true_outputs, unshared)

SHAPES = ((0, [0, 0]), (1, [0, 0]), (0, [0, 1]), (1, [1, 1]), (0, [2, 1, 0]), (2, [0, 2]), (1, [1, 0, 2]), (0, [1, 3]))


def table_of(rows):
    return [row[at] for at in range(len(rows[0])) for row in rows]


def samples(moduli=(5, 97, GREATEST)):
    """Circuits with rows, claimed tables, throws and choices."""
    for p in moduli:
        for seed, (dims, widths) in enumerate(SHAPES):
            circuit = sample_circuit(p, widths, seed)
            rows = sample_rows(circuit, dims, seed)
            numbers = Numbers(seed + p)
            claimed = table_of(true_outputs(circuit, rows))
            claimed[-1] = (claimed[-1] + numbers.below(2)) % p
            throws = numbers.many(throw_count(circuit, dims), p)
            choices = [number - p for number in numbers.many(numbers.below(40), 3 * p)]
            yield circuit, rows, dims, claimed, throws, choices


class Choices:
    """Point 12.2: choices in their order, and 0 behind the end."""

    def __init__(self, choices, p):
        self.left, self.p = list(choices), p

    def take(self):
        return self.left.pop(0) % self.p if self.left else 0


def near_rows(dims, point, thrown, p):
    both = 1
    for here, there in zip(point[:dims], thrown[:dims]):
        both = both * (here * there + (1 - here) * (1 - there)) % p
    return both


def told_weights(circuit, layer, dims, point, thrown):
    """The three weights of point 12.3."""
    p, bits = circuit[1], circuit[2][layer + 1]
    found = plain_weights(circuit, layer, point[dims:], thrown[dims:dims + bits], thrown[dims + bits:])
    return [weight * near_rows(dims, point, thrown, p) % p for weight in found]


def plain_line(line, told, claim, p):
    """Point 12.3, step by step."""
    a, b, c = told
    u, raises = line[0], 0
    while True:
        if len(line) == 1:
            if (a * u + b * u + c * u * u - claim) % p == 0:
                return [u]
        elif (b + c * u) % p != 0:
            return [u, (claim - a * u) * pow(b + c * u, -1, p) % p] + line[2:]
        elif (a * u - claim) % p == 0:
            return [u, line[1]] + line[2:]
        if raises == 49 or raises == p - 1:
            return [u] + line[1:]
        u, raises = (u + 1) % p, raises + 1


def plain_round(honest, claim, choices, p):
    sent = [(entry + choices.take()) % p for entry in honest]
    sent[1] = (claim - sent[0]) % p
    return sent


def plain_guess(honest, claim, choices, p):
    """Point 12.4, with the multiple that fits found by the inverse."""
    guesses = [choices.take() for _ in honest[1:]]

    def at(t):
        result = 1
        for guess in guesses:
            result = result * (t - guess) % p
        return result

    lack = (claim - honest[0] - honest[1]) % p
    both = (at(0) + at(1)) % p
    if both == 0:
        return [honest[0], (honest[1] + lack) % p] + honest[2:]
    return [(entry + lack * pow(both, -1, p) * at(t)) % p for t, entry in enumerate(honest)]


def plain_bluff(circuit, rows, claimed, throws, choices, round_values):
    """The answers of a bluffer, from the honest ones, and the claims in front of all answers."""
    p, dims = circuit[1], len(rows).bit_length() - 1
    honest = answers(Answerer(circuit, rows), throws)
    left = Choices(choices, p)
    parts = split_throws(circuit, dims, throws)
    claim = table_value(claimed, parts[0][0], p)
    told = []
    for layer, (point, thrown, t) in enumerate(parts):
        polys = []
        for at, number in enumerate(thrown):
            polys.append(round_values(honest[layer][0][at], claim, left, p))
            claim = poly_value(polys[-1], number, p)
        line = [(entry + left.take()) % p for entry in honest[layer][1]]
        line = plain_line(line, told_weights(circuit, layer, dims, point, thrown), claim, p)
        claim = poly_value(line, t, p)
        told.append((polys, line))
    return told


class BlufferTest(unittest.TestCase):
    def test_fields(self):
        for kind in (Bluffer, Guesser):
            for circuit, rows, dims, claimed, _, choices in samples((97,)):
                bluffer = kept(self, kind, circuit, rows, claimed, choices)
                self.assertNotIsInstance(bluffer, Answerer)
                self.assertIsInstance(bluffer, Bluffer)
                self.assertEqual((bluffer.circuit, bluffer.bits, bluffer.p, bluffer.steps), (circuit, dims, 97, 0))
                unshared(self, bluffer.circuit, circuit)
                found = bluffer.outputs()
                self.assertEqual(found, claimed)
                found[0] = -1
                self.assertEqual(bluffer.outputs(), claimed)

    def test_errors(self):
        circuit = sample_circuit(97, [0, 1], 1)
        for kind in (Bluffer, Guesser):
            raised(self, CircuitError, "part", "circuit", kind, None, [], [], [])
            raised(self, FieldError, "number", 4, kind, ("circuit", 4) + circuit[2:], [], [], [])
            raised(self, SizeError, "limit", "columns", kind, ("circuit", 97, [9, 0], [None]), [], [], [])
            raised(self, CircuitError, "part", "rows", kind, circuit, [], [], [])
            raised(self, SizeError, "limit", "rows", kind, circuit, [[0, 0]] * 2048, [], [])
            raised(self, CircuitError, "part", "row", kind, circuit, [[0, 97]], [0], [])

    def test_what_it_sends(self):
        for circuit, rows, _, claimed, throws, choices in samples():
            told = kept(self, lambda *given: answers(Bluffer(*given[:4]), given[4]), circuit, rows, claimed, choices, throws)
            self.assertEqual(told, plain_bluff(circuit, rows, claimed, throws, choices, plain_round))

    def test_what_a_guesser_sends(self):
        for circuit, rows, _, claimed, throws, choices in samples():
            for guesses in (choices, throws + choices, []):
                told = answers(Guesser(circuit, rows, claimed, guesses), throws)
                self.assertEqual(told, plain_bluff(circuit, rows, claimed, throws, guesses, plain_guess))

    def test_a_right_claim_without_choices_is_honest(self):
        for kind in (Bluffer, Guesser):
            for circuit, rows, _, _, throws, _ in samples((97, GREATEST)):
                honest = Answerer(circuit, rows)
                bluffer = kind(circuit, rows, honest.outputs(), [])
                told = answers(bluffer, throws)
                expected = answers(honest, throws)
                self.assertEqual([polys for polys, _ in told], [polys for polys, _ in expected])
                self.assertEqual(judge(circuit, rows, true_outputs(circuit, rows), throws, told), ("believed",))
                self.assertEqual(bluffer.steps, honest.steps)

    def test_what_is_returned_is_not_the_state(self):
        for kind in (Bluffer, Guesser):
            for circuit, rows, dims, claimed, throws, choices in samples((97,)):
                expected = answers(kind(circuit, rows, claimed, choices), throws)
                arguments = (circuit, [list(row) for row in rows], list(claimed), list(choices))
                bluffer = kind(*arguments)
                point, thrown, t = split_throws(circuit, dims, throws)[0]
                point = list(point)
                for given in arguments[1:]:
                    given.clear()
                bluffer.begin(0, point)
                point.clear()
                for at, number in enumerate(thrown):
                    sent = bluffer.poly()
                    self.assertEqual(sent, expected[0][0][at])
                    sent.clear()
                    bluffer.throw(number)
                sent = bluffer.line()
                self.assertEqual(sent, expected[0][1])
                sent.clear()
                self.assertIsNone(bluffer.throw(t))


class ClaimTest(unittest.TestCase):
    """Point 12.1: what a bluffer takes for its claim."""

    def test_another_layer_first(self):
        circuit, rows = sample_circuit(97, [1, 1, 1], 3), [[5, 6], [7, 8]]
        bluffer = Bluffer(circuit, rows, [1, 2, 3, 4], [3])
        bluffer.begin(1, [5, 6])
        sent = bluffer.poly()
        self.assertEqual((sent[0] + sent[1]) % 97, 0)
        bluffer.throw(7)
        claim = poly_value(sent, 7, 97)
        sent = bluffer.poly()
        self.assertEqual((sent[0] + sent[1]) % 97, claim)

    def test_layer_0_again(self):
        circuit, rows = sample_circuit(97, [1, 1, 1], 3), [[5, 6], [7, 8]]
        bluffer = Bluffer(circuit, rows, [1, 2, 3, 4], [])
        for point in ([5, 6], [7, 8]):
            bluffer.begin(0, point)
            sent = bluffer.poly()
            self.assertEqual((sent[0] + sent[1]) % 97, table_value([1, 2, 3, 4], point, 97))
            bluffer.throw(9)

    def test_behind_a_line(self):
        circuit, rows = sample_circuit(97, [0, 1, 1], 3), [[5, 6]]
        bluffer = Bluffer(circuit, rows, [50], [1, 2, 3, 4, 5, 6, 7, 8, 9])
        bluffer.begin(0, [])
        for number in (5, 6):
            bluffer.poly()
            bluffer.throw(number)
        line = bluffer.line()
        bluffer.throw(40)
        bluffer.begin(1, [11])
        sent = bluffer.poly()
        self.assertEqual((sent[0] + sent[1]) % 97, poly_value(line, 40, 97))


class ChoiceTest(unittest.TestCase):
    def test_every_polynomial_that_fits_has_choices(self):
        circuit, rows = sample_circuit(5, [0, 1], 6), [[2, 3]]
        for sent in product(range(5), repeat=3):
            honest = Answerer(circuit, rows)
            honest.begin(0, [])
            wanted = [entry - right for entry, right in zip(sent, honest.poly())]
            claimed = [(sent[0] + sent[1]) % 5]
            for great in (0, 5 * 10 ** 40, -5 * 10 ** 40):
                bluffer = Bluffer(circuit, rows, claimed, [wanted[0] + great, 3, wanted[2] - great])
                bluffer.begin(0, [])
                self.assertEqual(bluffer.poly(), list(sent))

    def test_a_choice_for_the_value_at_1_is_used_up(self):
        circuit, rows = sample_circuit(97, [0, 1], 6), [[2, 3]]
        honest = Answerer(circuit, rows)
        honest.begin(0, [])
        first = honest.poly()
        bluffer = Bluffer(circuit, rows, honest.outputs(), [1, 50, 2])
        bluffer.begin(0, [])
        self.assertEqual(bluffer.poly(), [(first[0] + 1) % 97, (first[1] - 1) % 97, (first[2] + 2) % 97])
        bluffer.throw(4)
        honest.throw(4)
        second = bluffer.poly()
        self.assertEqual([second[0], second[2]], [honest.poly()[0], honest.poly()[2]])


def sent_line(p, gate, values, claimed, choices, throws):
    """The line that a bluffer sends for one gate over one row, at these throws of the rounds."""
    bits = len(values).bit_length() - 1
    bluffer = Bluffer(("circuit", p, [0, bits], [[gate]]), [values], [claimed], choices)
    bluffer.begin(0, [])
    for number in throws:
        bluffer.poly()
        bluffer.throw(number)
    return bluffer.line()


class LineTest(unittest.TestCase):
    """Point 12.3, worked out by hand; without rounds the claim is the claimed output."""

    def test_one_value(self):
        # 3 u must be 7 modulo 11: u is 6, and 5 is raised once.
        gate = ("lin", 1, 0, 2, 0)
        self.assertEqual(sent_line(11, gate, [5], 7, [], []), [6])
        self.assertEqual(sent_line(11, gate, [5], 7, [3], []), [6])
        # u must be 7, which is met behind the greatest number.
        self.assertEqual(sent_line(11, ("lin", 1, 0, 0, 0), [9], 7, [], []), [7])
        # No square is 2 modulo 11; all numbers are tried, and the last one is 1 less than the first.
        self.assertEqual(sent_line(11, ("mul", 1, 0, 0), [5], 2, [], []), [4])
        self.assertEqual(sent_line(11, ("mul", 1, 0, 0), [5], 2, [3], []), [7])
        self.assertEqual(sent_line(11, ("mul", 1, 0, 0), [5], 4, [], []), [9])

    def test_how_often_one_value_is_raised(self):
        gate = ("lin", 1, 0, 0, 0)
        self.assertEqual(sent_line(97, gate, [5], 54, [], []), [54])
        self.assertEqual(sent_line(97, gate, [5], 55, [], []), [54])
        self.assertEqual(sent_line(97, gate, [5], 4, [], []), [54])
        self.assertEqual(sent_line(53, gate, [5], 1, [], []), [1])
        self.assertEqual(sent_line(53, gate, [5], 2, [], []), [1])
        self.assertEqual(sent_line(47, gate, [5], 4, [], []), [4])

    def test_two_values(self):
        """Throws of x and y at 0 and 1, so the weights are those of the gate, and the claim is true."""

        def line(p, gate, claimed, u, v):
            return sent_line(p, gate, [4, 2], claimed, [0] * 6 + [u - 4, v - 2], [0, 1])

        self.assertEqual(line(97, ("lin", 3, 0, 5, 1), 22, 5, 7), [5, (22 - 15) * pow(5, -1, 97) % 97])
        self.assertEqual(line(97, ("mul", 3, 0, 1), 24, 5, 7), [5, 8 * pow(5, -1, 97) % 97])
        # Where u is 0 nothing fits, and u is raised once.
        self.assertEqual(line(97, ("mul", 3, 0, 1), 24, 0, 7), [1, 8])
        # Without a weight of y only u counts, and v stays.
        self.assertEqual(line(97, ("lin", 3, 0, 0, 1), 12, 90, 7), [4, 7])
        self.assertEqual(line(97, ("lin", 3, 0, 0, 1), 12, 52, 7), [4, 7])
        self.assertEqual(line(97, ("lin", 3, 0, 0, 1), 12, 51, 7), [3, 7])
        self.assertEqual(line(97, ("lin", 3, 0, 0, 1), 12, 5, 7), [54, 7])
        self.assertEqual(line(43, ("lin", 3, 0, 0, 1), 12, 5, 7), [4, 7])
        self.assertEqual(line(97, ("lin", 0, 0, 0, 1), 0, 5, 7), [5, 7])

    def test_values_that_no_weight_reads_stay(self):
        told = sent_line(97, ("lin", 1, 0, 1, 3), [4, 2, 7, 1], 50, [0] * 12 + [5, 6, 7], [0, 0, 1, 1])
        honest = Answerer(("circuit", 97, [0, 2], [[("lin", 1, 0, 1, 3)]]), [[4, 2, 7, 1]])
        honest.begin(0, [])
        for number in (0, 0, 1, 1):
            honest.throw(number)
        self.assertEqual(len(told), 3)
        self.assertEqual([told[0], told[2]], [honest.line()[0] + 5, honest.line()[2] + 7])

    def test_small_moduli(self):
        """Lines for all weights and claims modulo 5 and 7, by whole conversations about one gate of each kind."""
        for p in (5, 7):
            for values in ([4, 2], [0, 3]):
                for throws in product(range(p), repeat=2):
                    for gate in (("lin", 1, 0, 2, 1), ("lin", 0, 0, 2, 1), ("lin", 3, 1, 0, 0), ("mul", 2, 0, 1),
                                 ("lin", 0, 0, 0, 0)):
                        for claimed in range(p):
                            circuit = ("circuit", p, [0, 1], [[gate]])
                            whole = list(throws) + [3]
                            found = answers(Bluffer(circuit, [values], [claimed], [1, 2, 3, 4, 0, 2, 1, 3]), whole)
                            expected = plain_bluff(circuit, [values], [claimed], whole, [1, 2, 3, 4, 0, 2, 1, 3], plain_round)
                            self.assertEqual(found, expected)


class FittingTest(unittest.TestCase):
    """What a bluffer sends fits where the document says so."""

    def test_rounds_fit(self):
        """A bluffed claim is refused at a line or at the inputs only; with a line that fits it goes on."""
        for kind in (Bluffer, Guesser):
            for circuit, rows, dims, claimed, throws, choices in samples():
                claim_rows = [claimed[at::len(rows)] for at in range(len(rows))]
                told = answers(kind(circuit, rows, claimed, choices), throws)
                result = judge(circuit, rows, claim_rows, throws, told)
                if result != ("believed",):
                    self.assertIn(result[2], ("end", "inputs"))
                if result[-1] == "end":
                    self.cannot_fit(circuit, rows, dims, throws, told, result[1])

    def cannot_fit(self, circuit, rows, dims, throws, told, layer):
        """A line that does not fit: no value beside one that is tried does."""
        p = circuit[1]
        point, thrown, _ = split_throws(circuit, dims, throws)[layer]
        a, b, c = told_weights(circuit, layer, dims, point, thrown)
        claim = poly_value(told[layer][0][-1], thrown[-1], p) if thrown else None
        line = told[layer][1]
        tried = [(line[0] - k) % p for k in range(min(50, p))]
        if claim is not None and len(line) > 1:
            self.assertFalse([u for u in tried if (b + c * u) % p != 0 or (a * u - claim) % p == 0])

    def test_a_line_of_one_value_that_fits(self):
        """Modulo 5 all values are tried, so a claim that a gate over one column can have gets to the inputs."""
        circuit = ("circuit", 5, [0, 0, 0], [[("lin", 1, 0, 1, 0)], [("lin", 1, 0, 0, 0)]])
        for claimed in range(5):
            told = answers(Bluffer(circuit, [[2]], [claimed], []), [1, 1])
            result = judge(circuit, [[2]], [[claimed]], [1, 1], told)
            self.assertEqual(result, ("believed",) if claimed == 4 else ("refused", 2, "inputs"))


class WholeTest(unittest.TestCase):
    def test_false_claims_that_are_believed_have_their_blame(self):
        kinds = set()
        for kind in (Bluffer, Guesser):
            for dims, widths, seed in ((0, [1, 0], 1), (1, [0, 0], 2), (0, [0, 1], 4), (0, [1, 1], 6), (1, [1, 0], 7)):
                circuit = sample_circuit(5, widths, seed)
                rows = sample_rows(circuit, dims, seed)
                outputs = true_outputs(circuit, rows)
                outputs[-1][-1] = (outputs[-1][-1] + 1) % 5
                numbers = Numbers(seed)
                for throws in product(range(5), repeat=throw_count(circuit, dims)):
                    throws = list(throws)
                    told = answers(kind(circuit, rows, table_of(outputs), numbers.many(20, 5)), throws)
                    found = blame(circuit, rows, outputs, throws, told)
                    if judge(circuit, rows, outputs, throws, told) == ("believed",):
                        self.assertEqual(found, plain_blame(circuit, rows, outputs, throws, told))
                        self.assertIsInstance(found, tuple)
                        kinds.add(found[0])
                    else:
                        self.assertIsNone(found)
        self.assertEqual(kinds, {"outputs", "round", "line"})

    def test_a_right_guess_makes_the_claim_true(self):
        """Point 12.4: behind a throw that was guessed, all is honest, and the blame is that round."""
        seen = set()
        for p in (97, GREATEST):
            for dims, widths in ((1, [0, 1]), (2, [0, 0]), (0, [0, 2]), (1, [1, 1, 1])):
                circuit = sample_circuit(p, widths, 5)
                rows = sample_rows(circuit, dims, 5)
                honest = Answerer(circuit, rows)
                throws = Numbers(7).many(throw_count(circuit, dims), p)
                expected = answers(honest, throws)
                claimed = honest.outputs()
                claimed[0] = (claimed[0] + 1) % p
                outputs = [claimed[at::len(rows)] for at in range(len(rows))]
                guesses, sizes = [], [len(poly) - 1 for poly in expected[0][0]]
                for at, size in enumerate(sizes[:3]):
                    choices = guesses + [throws[dims + widths[0] + at] + p] + [2] * (size - 1)
                    told = answers(Guesser(circuit, rows, claimed, choices), throws)
                    self.assertEqual(told[0][0][at + 1:], expected[0][0][at + 1:])
                    self.assertEqual([polys for polys, _ in told[1:]], [polys for polys, _ in expected[1:]])
                    self.assertNotEqual(told[0][0][at], expected[0][0][at])
                    if judge(circuit, rows, outputs, throws, told) == ("believed",):
                        self.assertEqual(blame(circuit, rows, outputs, throws, told), ("round", 0, at))
                        seen.add(at)
                    guesses += [2] * size
        self.assertEqual(seen, {0, 1, 2})


class HopefulTest(unittest.TestCase):
    def test_the_polynomial(self):
        for p in (2, 3, 5, 7, 97, GREATEST):
            numbers = Numbers(p)
            for degree in range(1, min(p, 5)):
                for many in range(degree + 1):
                    for _ in range(10):
                        guesses = numbers.many(many, p)
                        lack = numbers.below(p)
                        found = kept(self, hopeful, lack, guesses, degree, p)
                        values = [1] * (degree + 1)
                        for t in range(degree + 1):
                            for guess in guesses:
                                values[t] = values[t] * (t - guess) % p
                        if (values[0] + values[1]) % p == 0:
                            self.assertIsNone(found)
                            continue
                        self.assertEqual((found[0] + found[1]) % p, lack)
                        self.assertEqual(len(found), degree + 1)
                        self.assertTrue(all(0 <= entry < p for entry in found))
                        for t in range(degree + 1):
                            self.assertEqual(found[t] * (values[0] + values[1]) % p, values[t] * lack % p)
                        for guess in guesses:
                            self.assertEqual(poly_value(found, guess, p), 0)

    def test_too_many_guesses(self):
        self.assertIsNone(hopeful(1, [2, 3, 5], 2, 97))
        self.assertIsNone(hopeful(1, [2, 3], 1, 97))
        self.assertIsNotNone(hopeful(1, [2, 3], 2, 97))

    def test_nothing_to_add_up(self):
        # The product of t - 0 and t - 1 is 0 at 0 and at 1; t - 49 has -49 and -48 modulo 97.
        self.assertIsNone(hopeful(5, [0, 1], 2, 97))
        self.assertIsNone(hopeful(0, [0, 1], 2, 97))
        self.assertIsNone(hopeful(5, [49], 1, 97))
        self.assertIsNone(hopeful(1, [], 1, 2))
        self.assertEqual(hopeful(0, [2, 5], 2, 97), [0, 0, 0])

    def test_no_guesses(self):
        self.assertEqual(hopeful(10, [], 3, 97), [5, 5, 5, 5])


if __name__ == "__main__":
    unittest.main()
