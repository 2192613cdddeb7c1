"""Points 20.1 to 20.5: scripts."""

import unittest

from layerask.console import run_script
from layerask.errors import CommandError
from layerask.jobs import Job
from layerask.talks import write_talk
from plain import Numbers, raised

TEXT = "field 97\ninput a[2]\noutput a[0] * a[1]\noutput a[0] == 5"
PROGRAM = f"program\n{TEXT}\n.\n"
ROWS = [[5, 7], [2, 3]]
CLAIMS = [[35, 1], [6, 0]]


def talked(claims=CLAIMS):
    """The throws, and the text of the conversation with the honest answers."""
    job = Job(TEXT)
    dice = Numbers(4).many(job.throw_count(ROWS), 97)
    return dice, write_talk(dice, job.honest(ROWS, dice)[1])


def commands(word, rows):
    return "".join(f"{word} {' '.join(str(number) for number in row)}\n" for row in rows)


def wrong(test, script, line):
    raised(test, CommandError, "line", line, run_script, script)


class LineTest(unittest.TestCase):
    """Point 20.1."""

    def test_empty_lines_and_comments(self):
        for script in ("", "\n", "   ", "#", "# check", "  # check", "#check\n\n   \n#", "\n\n", "# program", "#program\n"):
            self.assertEqual(run_script(script), [])

    def test_spaces(self):
        for script in (" check", "check ", "   check   ", "  row   5    7  \n check", "clear \n  unclaim\ncheck"):
            self.assertEqual(run_script(PROGRAM + script), ["inputs 2 outputs 2"])
        self.assertEqual(run_script(PROGRAM + "  row   5    7  \n  mean "), ["35 1"])

    def test_numbers(self):
        for number in ("0", "5", "10", "1234567890", "9999999999"):
            self.assertEqual(run_script(f"row {number}\nclaim {number} {number}\nthrows {number}"), [])
        for word in ("00", "05", "12345678901", "-1", "+1", "x", "1.5", "1,2", "#", "1#", "\u00b2", "\u0661", "\t1", "row", "0x1"):
            for command in ("row", "claim", "throws"):
                wrong(self, f"\n{command} {word}", 2)
                wrong(self, f"{command} 1 {word} 2", 1)

    def test_tabs_are_no_spaces(self):
        wrong(self, "row\t5", 1)
        wrong(self, "\tcheck", 1)
        wrong(self, "\t", 1)
        wrong(self, "check\r", 1)


class CommandTest(unittest.TestCase):
    """Point 20.5: what is no command."""

    def test_words(self):
        for line in ("x", "Check", "CHECK", "checks", "rows 1", "claims 1", "throw 1", ".", "end", "5", "program 1", "program field", "talk 1", "clear 1",
                     "clear all", "unclaim 1", "check 1", "circuit now", "mean 5 7", "honest 1", "ask 1", "check check", "program # text",
                     "check # it", "error", "bye"):
            wrong(self, line, 1)
            wrong(self, f"row 1\n\n# fine\n{line}\nx", 4)

    def test_too_many_numbers(self):
        for command in ("row", "claim", "throws"):
            self.assertEqual(run_script(command + " 1" * 4096), [])
            self.assertEqual(run_script(command), [])
            wrong(self, "\n" + command + " 1" * 4097, 2)

    def test_texts_that_do_not_end(self):
        wrong(self, "program", 1)
        wrong(self, "row 1\nprogram\nfield 97\nx y z\n", 2)
        wrong(self, "program\n. \n .\n..\nend", 1)
        wrong(self, "talk", 1)
        wrong(self, "\n\ntalk\nthrows\n.", 3)
        wrong(self, "talk\nend \n end\nEnd", 1)
        wrong(self, "program\n.\nprogram\ntalk\nend", 3)

    def test_the_first_line_decides(self):
        wrong(self, PROGRAM + "check\nrow x\nprogram", 8)
        wrong(self, "program\nrow x\n.\nx", 4)
        wrong(self, "x\nprogram", 1)


class SettingTest(unittest.TestCase):
    """Point 20.2."""

    def test_the_text_of_a_program(self):
        # Nothing in it is a command, and its lines are counted from 1.
        self.assertEqual(run_script("program\nrow x\n\n# x\n.\ncheck"), ["error TextError 1"])
        self.assertEqual(run_script("\n\nprogram\n# fine\n field 97\noutput\n.\ncheck"), ["error TextError 3"])
        self.assertEqual(run_script("program\nfield 97\noutput 1\n\n.\ncheck"), ["inputs 0 outputs 1"])
        self.assertEqual(run_script("program\nfield 97\noutput 1\n. \n.\ncheck"), ["error TextError 3"])
        # No newline stands behind the last line.
        self.assertEqual(run_script("program\nfield 97\noutput\n.\ncheck"), ["error TextError 2"])
        self.assertEqual(run_script("program\n.\ncheck"), ["error TextError 1"])
        self.assertEqual(run_script("program\n\n\n.\ncheck"), ["error TextError 2"])

    def test_the_last_program_counts(self):
        self.assertEqual(run_script(PROGRAM + "program\nfield 97\noutput 1\n.\ncheck\n" + PROGRAM + "check"),
                         ["inputs 0 outputs 1", "inputs 2 outputs 2"])

    def test_at_first_all_is_empty(self):
        self.assertEqual(run_script("check"), ["error TextError 1"])
        self.assertEqual(run_script("circuit\nmean\nhonest\nask"), ["error TextError 1"] * 4)
        self.assertEqual(run_script(PROGRAM + "mean"), [])
        self.assertEqual(run_script(PROGRAM + "ask"), ["error TextError 1"])

    def test_texts_are_not_read_before(self):
        self.assertEqual(run_script("program\n_!\n.\ntalk\nnonsense\nend\nrow 1\n" + PROGRAM + "check"), ["inputs 2 outputs 2"])
        self.assertEqual(run_script("talk\nnonsense\nend\n" + PROGRAM + "row 5 7\nmean\nask"), ["35 1", "error TextError 2"])

    def test_rows_and_claims(self):
        script = PROGRAM + "row 5 7\nrow 2 3\nmean\nclear\nmean\nrow 5 1\nmean"
        self.assertEqual(run_script(script), ["35 1", "6 0", "5 1"])

    def test_clear_and_unclaim(self):
        script = PROGRAM + "row 5 7\nclaim 1\nmean\nunclaim\nmean\nclaim 1\nrow 1\nmean\nclear\nrow 5 7\nmean"
        self.assertEqual(run_script(script), ["error CircuitError outputs", "35 1", "error CircuitError rows", "35 1"])

    def test_throws_are_set(self):
        dice, _ = talked()
        rows = commands("row", ROWS)
        once = run_script(PROGRAM + rows + commands("throws", [dice]) + "honest")
        again = run_script(PROGRAM + rows + "throws 1 2 3\nclear\n" + rows + commands("throws", [dice]) + "unclaim\nhonest")
        self.assertEqual(once, again)


class ToldTest(unittest.TestCase):
    """Point 20.3."""

    def test_check_and_circuit(self):
        self.assertEqual(run_script(PROGRAM + "check\ncircuit"), ["inputs 2 outputs 2", "layers 9 gates 34"])
        job = Job(TEXT)
        self.assertEqual(len(job.circuit[3]), 9)
        self.assertEqual(sum(len(gates) for gates in job.circuit[3]), 34)
        self.assertEqual(run_script("program\nfield 97\ninput a\noutput a * a + 1\n.\ncheck\nrow 5\nrow 96\nmean"),
                         ["inputs 1 outputs 1", "26", "2"])
        self.assertEqual(run_script("program\nfield 97\noutput 1\n.\ncircuit"), ["layers 1 gates 1"])

    def test_mean(self):
        text = "program\nfield 7\ninput a[2]\noutput a\noutput a[0] * a[1]\n.\n"
        self.assertEqual(run_script(text + "row 1 2\nrow 3 4\nrow 5 6\nmean"), ["1 2 2", "3 4 5", "5 6 2"])
        self.assertEqual(run_script("program\nfield 97\noutput 5\n.\nrow\nrow\nmean"), ["5", "5"])

    def test_honest(self):
        dice, text = talked()
        found = run_script(PROGRAM + commands("row", ROWS) + commands("throws", [dice]) + "honest")
        self.assertEqual(found, ["claim 35 1", "claim 6 0"] + text.split("\n")[:-1])
        self.assertEqual([found[2], found[3], found[-1]], ["talk", "throws " + " ".join(str(number) for number in dice), "end"])

    def test_ask(self):
        dice, text = talked()
        rows = commands("row", ROWS)
        self.assertEqual(run_script(PROGRAM + rows + commands("claim", CLAIMS) + text + "ask"), ["believed"])
        self.assertEqual(run_script(PROGRAM + rows + commands("claim", [[35, 1], [6, 1]]) + text + "ask"), ["refused 0 0"])
        # The conversation has its own throws.
        self.assertEqual(run_script(PROGRAM + rows + commands("claim", CLAIMS) + "throws 1\n" + text + "ask"), ["believed"])
        changed = text.replace("line", "line 5", 1)
        self.assertEqual(run_script(PROGRAM + rows + commands("claim", CLAIMS) + changed + "ask"), ["refused 0 end"])

    def test_what_honest_writes_is_believed(self):
        dice, _ = talked()
        rows = commands("row", ROWS)
        written = run_script(PROGRAM + rows + commands("throws", [dice]) + "honest")
        self.assertEqual(run_script(PROGRAM + rows + "\n".join(written) + "\nask\nclear\nask"), ["believed", "error CircuitError rows"])

    def test_refused_at_the_inputs(self):
        text = "program\nfield 97\ninput a\noutput a\n.\n"
        found = run_script(text + "row 5\nthrows 4 6 8\nhonest")
        self.assertEqual(found[0], "claim 5")
        script = text + "row 5\n" + "\n".join(found) + "\nask\nclear\nrow 7\nclaim 5\nask"
        self.assertEqual(run_script(script), ["believed", "refused 1 inputs"])


class ErrorTest(unittest.TestCase):
    """Point 20.4, and the errors of point 20.3."""

    def test_every_command_makes_the_job_first(self):
        for command in ("check", "circuit", "mean", "honest", "ask"):
            for text, told in (("field 97\noutput", "TextError 2"), ("field 9\noutput 1", "ProgramError prime 1"),
                               ("field 97\n\noutput x", "ProgramError name 3"), ("field 97\ninput a\noutput a[0]", "ProgramError kind 3"),
                               ("field 97 output sum i < 64: sum j < 64: sum k < 64: 1", "SizeError steps"),
                               ("field 97 input a output (repeat 64 with x = a: x * x) + a", "SizeError layers")):
                script = f"program\n{text}\n.\nrow 1 2 3\nclaim 1 2 3\n{command}\n{PROGRAM}clear\ncheck"
                self.assertEqual(run_script(script), ["error " + told, "inputs 2 outputs 2"])

    def test_rows_come_before_claims(self):
        for command in ("mean", "honest", "ask"):
            for rows, claims, told in (([[5, 7], [5]], [[1]], "rows"), ([[]], [[1, 2]], "rows"), ([[5, 7, 9]], [], "rows"),
                                       ([[5, 7]], [[1, 2], [1]], "outputs"), ([[5, 7]], [[]], "outputs"), ([], [[1, 2, 3]], "outputs")):
                script = PROGRAM + commands("row", rows) + commands("claim", claims) + command
                self.assertEqual(run_script(script), ["error CircuitError " + told])

    def test_ask_reads_the_conversation_then(self):
        self.assertEqual(run_script(PROGRAM + "talk\nx\nend\nrow 5 7\nclaim 1\nask"), ["error CircuitError outputs"])
        self.assertEqual(run_script(PROGRAM + "talk\nx\nend\nrow 5 97\nclaim 1 1\nask"), ["error TextError 2"])
        self.assertEqual(run_script(PROGRAM + "talk\nthrows\nend\nrow 5 97\nclaim 1 1\nask"), ["error CircuitError row"])

    def test_errors_of_the_conversation(self):
        dice, text = talked()
        rows, claims = commands("row", ROWS), commands("claim", CLAIMS)
        for script, told in (
                ("row 1 1\n" + rows + claims + text, "CircuitError rows"), (text, "CircuitError rows"),
                (rows + text, "CircuitError outputs"), (rows + claims + "claim 1 1\n" + text, "CircuitError outputs"),
                (rows + commands("claim", [[35, 1], [6, 97]]) + text, "CircuitError outputs"),
                ("row 97 1\nrow 1 1\n" + claims + text, "CircuitError row"), (rows * 1024 + text, "SizeError rows"),
                (rows + claims + text.replace("throws", "throws 1", 1), "TalkError throws"),
                (rows + claims + text.replace("throws " + str(dice[0]), "throws 97", 1), "TalkError throw"),
                (rows + claims + "talk\nthrows " + " ".join(str(number) for number in dice) + "\nend\n", "TalkError answers"),
                (rows + claims + text.replace("\nlayer", "\nlair", 1), "TextError 3")):
            self.assertEqual(run_script(PROGRAM + script + "ask\ncheck"), ["error " + told, "inputs 2 outputs 2"])

    def test_a_small_modulus(self):
        script = "program\nfield 3\ninput a\noutput a\n.\nrow 2\nclaim 2\ntalk\nthrows\nend\nask\nmean"
        self.assertEqual(run_script(script), ["error CircuitError modulus", "2"])


if __name__ == "__main__":
    unittest.main()
