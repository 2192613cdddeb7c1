"""The examples of the document, which examples.txt holds."""

import doctest
import os
import unittest

PLACE = os.path.join(os.path.dirname(os.path.abspath(__file__)), "examples.txt")
MODULES = ("field", "polys", "cubes", "sums", "circuits", "wiring", "answering", "counts", "bluffing", "talks", "parsing",
           "sizes", "meaning", "graphs", "layers", "jobs", "console", "chains", "joining", "bundles", "tables", "stepping", "bags",
           "regular", "matrices", "walks", "largenodes", "largeroad")


class ExamplesTest(unittest.TestCase):
    def test_examples(self):
        with open(PLACE, encoding="ascii") as held:
            pieces = held.read().split("# layerask/")[1:]
        self.assertEqual(sorted(piece.split(".py")[0] for piece in pieces), sorted(MODULES))
        for piece in pieces:
            name, text = piece.split(".py\n", 1)
            with self.subTest(module=name):
                written = []
                test = doctest.DocTestParser().get_doctest(text, {}, name, PLACE, 0)
                found = doctest.DocTestRunner(verbose=False).run(test, out=written.append)
                self.assertGreater(found.attempted, 0)
                self.assertEqual(found.failed, 0, "".join(written))


if __name__ == "__main__":
    unittest.main()
