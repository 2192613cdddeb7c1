"""Point 14.1: the tokens of program texts."""

import unittest

from layerask.errors import TextError
from layerask.parsing import parse_program
from layerask.tokens import is_word, tokenize
from plain import raised

WORDS = "field input function let output if then else sum product each repeat with and or not".split()
SIGNS = "== ( ) [ ] , = < : + - * ^".split()
LETTERS = "abcdefghijklmnopqrstuvwxyzABCDEFGHIJKLMNOPQRSTUVWXYZ"


def values(text):
    return [token[:2] for token in tokenize(text)[:-1]]


def wrong(test, text, line):
    raised(test, TextError, "line", line, tokenize, text)


class KindTest(unittest.TestCase):
    def test_words(self):
        for word in WORDS:
            self.assertIs(is_word(word), True)
            self.assertEqual(tokenize(word), [("word", word, 1), ("end", "", 1)])
            for other in (word + "s", word.upper(), "x" + word, word + "_", word + "0"):
                self.assertIs(is_word(other), False)
                self.assertEqual(values(other), [("name", other)])
        for other in ("", " ", "if ", "field input", "lets", "true", "in", "x", "_", "0", "==", "("):
            self.assertIs(is_word(other), False)

    def test_signs(self):
        for sign in SIGNS:
            self.assertEqual(tokenize(sign), [("sign", sign, 1), ("end", "", 1)])
        self.assertEqual(values("".join(SIGNS)), [("sign", sign) for sign in SIGNS])

    def test_the_longest_sign(self):
        self.assertEqual(values("==="), [("sign", "=="), ("sign", "=")])
        self.assertEqual(values("===="), [("sign", "=="), ("sign", "==")])
        self.assertEqual(values("= ="), [("sign", "="), ("sign", "=")])
        self.assertEqual(values("=\n="), [("sign", "="), ("sign", "=")])
        self.assertEqual(values("--a"), [("sign", "-"), ("sign", "-"), ("name", "a")])
        self.assertEqual(values("<=="), [("sign", "<"), ("sign", "==")])

    def test_names(self):
        for name in ("a", "Z", "a1", "a_", "a_1_b", "abcdefghijklmnop", "A23456789012345_", "summ"):
            self.assertEqual(tokenize(name), [("name", name, 1), ("end", "", 1)])
        for letter in LETTERS:
            self.assertEqual(values(letter), [("name", letter)])
        for run in ("abcdefghijklmnopq", "_", "_a", "__", "1a", "0_", "0x1", "9field", "a" * 17, "a" * 1000, "1_000"):
            wrong(self, run, 1)

    def test_numbers(self):
        for run in ("0", "7", "10", "1234567890", "9999999999"):
            self.assertEqual(tokenize(run), [("number", int(run), 1), ("end", "", 1)])
        for run in ("00", "01", "007", "12345678901", "00000000000", "1" * 5000):
            wrong(self, run, 1)

    def test_what_is_no_token(self):
        for char in "!\"$%&'./;>?@\\`{|}~":
            wrong(self, char, 1)
            wrong(self, f"a\n{char}", 2)
            wrong(self, f"a{char}b", 1)
        for text in ("a > b", "a != b", "a.b", "a;", "a\tb", "a\r\n", "\u00e9", "\u0661"):
            wrong(self, text, 1)


class PlaceTest(unittest.TestCase):
    def test_lines(self):
        text = "field 97 # the modulus\n\n  input a [ 3 ]\n#output\noutput a[0]"
        self.assertEqual(tokenize(text), [
            ("word", "field", 1), ("number", 97, 1), ("word", "input", 3), ("name", "a", 3), ("sign", "[", 3),
            ("number", 3, 3), ("sign", "]", 3), ("word", "output", 5), ("name", "a", 5), ("sign", "[", 5),
            ("number", 0, 5), ("sign", "]", 5), ("end", "", 5)])

    def test_the_end(self):
        for text, line in (("", 1), (" ", 1), ("\n", 2), ("a\n", 2), ("a\n\n\n", 4), ("#", 1), ("# a\n", 2), ("#\n#", 2)):
            self.assertEqual(tokenize(text)[-1], ("end", "", line))

    def test_comments(self):
        self.assertEqual(tokenize("a#b \"'c == ## d\nb#"), [("name", "a", 1), ("name", "b", 2), ("end", "", 2)])
        self.assertEqual(values("# only _ this ! 007"), [])
        wrong(self, "# fine _\n_", 2)

    def test_spaces(self):
        self.assertEqual(values("a+b"), values(" a  +\n b "))
        self.assertEqual(values("a b"), [("name", "a"), ("name", "b")])
        self.assertEqual(values("sum2"), [("name", "sum2")])
        self.assertEqual(values("sum 2"), [("word", "sum"), ("number", 2)])
        self.assertEqual(values("a(1)[2]"), [("name", "a"), ("sign", "("), ("number", 1), ("sign", ")"), ("sign", "["),
                                             ("number", 2), ("sign", "]")])

    def test_the_first_part_that_is_no_token(self):
        wrong(self, "a\nb 01\n_ c", 2)
        wrong(self, "a\n\n\n\n.", 5)
        wrong(self, ".\n01", 1)

    def test_all_tokens_are_read_first(self):
        raised(self, TextError, "line", 4, parse_program, "output\nfield\nfield\n_\n")
        raised(self, TextError, "line", 1, parse_program, "output\nfield\nfield\n\n")

    def test_the_largest_text(self):
        text = "a\n" * 8192
        self.assertEqual(len(text), 16384)
        self.assertEqual(tokenize(text), [("name", "a", line + 1) for line in range(8192)] + [("end", "", 8193)])


if __name__ == "__main__":
    unittest.main()
