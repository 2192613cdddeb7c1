"""Points 13.1 and 13.2: conversations as texts."""

import unittest

from layerask.answering import Answerer, answers
from layerask.asking import judge
from layerask.blame import blame
from layerask.bluffing import Bluffer, Guesser
from layerask.errors import TextError
from layerask.talks import read_talk, write_talk
from plain import (GREATEST, Numbers, kept, raised, sample_circuit, sample_rows, throw_count, true_outputs)

LINES = ["talk", "throws 3 4 2", "layer", "poly 35 0 34", "poly 0", "line 11", "layer", "line 7", "end", ""]


def wrong(test, lines, line):
    """The pieces must be refused with this line."""
    raised(test, TextError, "line", line, read_talk, "\n".join(lines))


def with_line(at, *lines):
    return LINES[:at] + list(lines) + LINES[at + 1:]


class WriteTest(unittest.TestCase):
    def test_written_form(self):
        told = [([[35, 0, 34], [0]], [11]), ([], [7])]
        self.assertEqual(kept(self, write_talk, [3, 4, 2], told), "\n".join(LINES))

    def test_empty_ones(self):
        self.assertEqual(write_talk([], []), "talk\nthrows\nend\n")
        self.assertEqual(write_talk([], [([[]], [])]), "talk\nthrows\nlayer\npoly\nline\nend\n")

    def test_great_numbers(self):
        self.assertEqual(write_talk([GREATEST], []), "talk\nthrows 2147483647\nend\n")


class ReadTest(unittest.TestCase):
    def test_what_was_written(self):
        numbers = Numbers(3)
        for _ in range(200):
            throws = numbers.many(numbers.below(5), 10 ** 10)
            told = []
            for _ in range(numbers.below(4)):
                polys = [numbers.many(numbers.below(4), 11) for _ in range(numbers.below(4))]
                told.append((polys, numbers.many(numbers.below(4), 10 ** numbers.below(11))))
            self.assertEqual(read_talk(write_talk(throws, told)), (throws, told))

    def test_kinds(self):
        throws, told = read_talk("\n".join(LINES))
        self.assertEqual((throws, told), ([3, 4, 2], [([[35, 0, 34], [0]], [11]), ([], [7])]))
        self.assertTrue(all(isinstance(pair, tuple) for pair in told))
        self.assertIsInstance(read_talk("\n".join(LINES)), tuple)

    def test_empty_ones(self):
        self.assertEqual(read_talk("talk\nthrows\nend\n"), ([], []))
        self.assertEqual(read_talk("talk\nthrows\nlayer\npoly\nline\nend\n"), ([], [([[]], [])]))


class NumberTest(unittest.TestCase):
    def test_digits(self):
        for word in ("0", "1", "10", "9999999999", "1000000000"):
            self.assertEqual(read_talk(f"talk\nthrows {word}\nend\n"), ([int(word)], []))
        for word in ("00", "01", "10000000000", "00000000000", "-1", "+1", "1.0", "1e3", "x", "0x1", "1_0", "\u00b2", "\u0661",
                     " 1", "1 ", "1  2", "\t1", "1\t2", "1\r", ""):
            raised(self, TextError, "line", 2, read_talk, f"talk\nthrows {word}\nend\n")

    def test_in_every_kind_of_line(self):
        wrong(self, with_line(1, "throws 3 04"), 2)
        wrong(self, with_line(3, "poly 35 x"), 4)
        wrong(self, with_line(5, "line 12345678901"), 6)


class LineTest(unittest.TestCase):
    def test_lines_that_do_not_fit(self):
        for at in range(len(LINES)):
            for line in ("", "Talk", "talk ", " talk", "end ", " end", "layer ", "layer 1", "throw 1", "polys 1", "poly1",
                         "lines", " line 1", "thr ows", "talk\r", "# talk"):
                if line != LINES[at]:
                    wrong(self, with_line(at, line), at + 1)

    def test_lines_of_other_places(self):
        wrong(self, with_line(0, "end"), 1)
        wrong(self, with_line(1, "poly 1"), 2)
        wrong(self, with_line(1, "layer"), 2)
        wrong(self, with_line(2, "poly 1"), 3)
        wrong(self, with_line(2, "line 1"), 3)
        wrong(self, with_line(3, "layer"), 4)
        wrong(self, with_line(3, "end"), 4)
        wrong(self, with_line(6, "poly 1"), 7)
        wrong(self, with_line(6, "line 1"), 7)
        wrong(self, with_line(6, "throws 1"), 7)
        wrong(self, with_line(8, "talk"), 9)
        wrong(self, with_line(9, "end"), 10)
        wrong(self, with_line(9, " "), 10)

    def test_lines_that_are_missing(self):
        """Cut behind each line, with and without a newline there."""
        for many in range(1, len(LINES) - 1):
            wrong(self, LINES[:many], many + 1)
            wrong(self, LINES[:many] + [""], many + 1)
        for at in range(len(LINES) - 1):
            if at != 3 and at != 4:
                wrong(self, with_line(at), at + 1)

    def test_the_end(self):
        wrong(self, LINES[:-1], 10)
        wrong(self, LINES + [""], 11)
        wrong(self, LINES + ["x"], 11)
        wrong(self, LINES[:-1] + ["x", ""], 10)
        wrong(self, [""], 1)
        wrong(self, ["", ""], 1)
        wrong(self, ["talk"], 2)

    def test_the_first_line_decides(self):
        wrong(self, ["talk", "throws 01", "lair", "poly x", "end"], 2)
        wrong(self, ["talk", "throws 1", "lair", "poly x", "end"], 3)


class SizeTest(unittest.TestCase):
    def test_so_many_pieces(self):
        pieces = ["talk", "throws"] + ["layer", "line"] * 9998 + ["end", ""]
        self.assertEqual(len(pieces), 20000)
        self.assertEqual(read_talk("\n".join(pieces)), ([], [([], [])] * 9998))
        wrong(self, pieces + [""], 20001)
        wrong(self, ["talk", "throws", "layer", "poly"] + pieces[3:], 20001)

    def test_too_many_pieces_come_first(self):
        wrong(self, ["x"] * 20001, 20001)
        wrong(self, ["x"] * 20002, 20001)
        wrong(self, ["x"] * 30000, 20001)
        wrong(self, ["x"] * 20000, 1)
        raised(self, TextError, "line", 20001, read_talk, "\n" * 20000)
        raised(self, TextError, "line", 1, read_talk, "\n" * 19999)


class ConversationTest(unittest.TestCase):
    def test_judged_and_blamed_as_before(self):
        kinds = set()
        for p in (5, 97):
            for dims, widths, seed in ((0, [1, 0], 1), (1, [1, 1], 2), (0, [0, 2, 1], 3), (2, [0, 1], 4)):
                circuit = sample_circuit(p, widths, seed)
                rows = sample_rows(circuit, dims, seed)
                outputs = true_outputs(circuit, rows)
                outputs[0][0] = (outputs[0][0] + 1) % p
                claimed = [row[at] for at in range(len(outputs[0])) for row in outputs]
                for again in range(25):
                    numbers = Numbers(again)
                    throws = numbers.many(throw_count(circuit, dims), p)
                    choices = numbers.many(30, p)
                    for answerer in (Answerer(circuit, rows), Bluffer(circuit, rows, claimed, choices),
                                     Guesser(circuit, rows, claimed, choices)):
                        told = answers(answerer, throws)
                        read_throws, read = read_talk(write_talk(throws, told))
                        self.assertEqual((read_throws, read), (throws, told))
                        result = judge(circuit, rows, outputs, throws, told)
                        self.assertEqual(judge(circuit, rows, outputs, read_throws, read), result)
                        place = blame(circuit, rows, outputs, throws, told)
                        self.assertEqual(blame(circuit, rows, outputs, read_throws, read), place)
                        kinds.add(result[0])
                        kinds.add(place is None)
        self.assertEqual(kinds, {"believed", "refused", True, False})


if __name__ == "__main__":
    unittest.main()
