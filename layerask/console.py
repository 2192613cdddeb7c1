"""Scripts of commands (point 20)."""

from layerask.circuits import depth, width
from layerask.errors import CircuitError, CommandError, ProgramError, SizeError, TalkError, TextError
from layerask.jobs import Job
from layerask.talks import read_talk, write_talk
from layerask.tokens import is_numeral

MOST_NUMBERS = 4096


class Settings:
    """What the commands of a script have set so far."""

    def __init__(self):
        self.program = ""
        self.talk = ""
        self.rows = []
        self.claims = []
        self.dice = []


def numbers_text(words, numbers):
    """Words and numbers with one space between them."""
    return " ".join(words + [str(number) for number in numbers])


def told_check(settings, job):
    return [f"inputs {job.inputs} outputs {job.outputs}"]


def told_circuit(settings, job):
    layers = depth(job.circuit)
    gates = sum([1 << width(job.circuit, layer) for layer in range(layers)])
    return [f"layers {layers} gates {gates}"]


def check_settings(settings, job):
    """Raises CircuitError if a row or a claim has another number of numbers than the program."""
    for row in settings.rows:
        if len(row) != job.inputs:
            raise CircuitError("rows")
    for row in settings.claims:
        if len(row) != job.outputs:
            raise CircuitError("outputs")


def told_mean(settings, job):
    check_settings(settings, job)
    return [numbers_text([], row) for row in job.meaning(settings.rows)]


def told_honest(settings, job):
    check_settings(settings, job)
    claims, told = job.honest(settings.rows, settings.dice)
    lines = [numbers_text(["claim"], row) for row in claims]
    return lines + write_talk(settings.dice, told).split("\n")[:-1]


def told_ask(settings, job):
    check_settings(settings, job)
    dice, told = read_talk(settings.talk)
    return [numbers_text([], job.asked(settings.rows, settings.claims, dice, told))]


ASKED = {"check": told_check, "circuit": told_circuit, "mean": told_mean, "honest": told_honest, "ask": told_ask}


def told_lines(settings, word):
    """The lines that a command writes; the job of the program is made first."""
    action = ASKED[word]
    return action(settings, Job(settings.program))


def written(settings, word):
    """The lines that a command writes, or one about its error."""
    try:
        return told_lines(settings, word)
    except TextError as bad_text:
        return [f"error TextError {bad_text.line}"]
    except ProgramError as bad_program:
        return [f"error ProgramError {bad_program.kind} {bad_program.line}"]
    except SizeError as bad_size:
        return [f"error SizeError {bad_size.limit}"]
    except CircuitError as bad_circuit:
        return [f"error CircuitError {bad_circuit.part}"]
    except TalkError as bad_talk:
        return [f"error TalkError {bad_talk.step}"]


def numbers_of(words, line):
    """The numbers behind the first word of a command."""
    if len(words) - 1 > MOST_NUMBERS:
        raise CommandError(line)
    for word in words[1:]:
        if not is_numeral(word):
            raise CommandError(line)
    return [int(word) for word in words[1:]]


def set_numbers(settings, words, line):
    """Adds a row or a claim, or sets the throws."""
    numbers = numbers_of(words, line)
    if words[0] == "row":
        settings.rows.append(numbers)
    elif words[0] == "claim":
        settings.claims.append(numbers)
    else:
        settings.dice = numbers


def take_away(settings, word):
    """Takes the claims away, and perhaps the rows."""
    settings.claims = []
    if word == "clear":
        settings.rows = []


def text_end(lines, start, last):
    """The place of the line that ends a text."""
    at = start
    while at < len(lines) and lines[at] != last:
        at += 1
    # The line of the command itself is the one in front of the text.
    if at == len(lines):
        raise CommandError(start)
    return at


def set_text(settings, word, lines, start):
    """Takes the text that begins at a place; the place of the line that ends it."""
    if word == "program":
        end = text_end(lines, start, ".")
        settings.program = "\n".join(lines[start:end])
    else:
        end = text_end(lines, start, "end")
        settings.talk = "\n".join(["talk"] + lines[start:end] + ["end", ""])
    return end


def words_of(line):
    """The words of a line; none if it is empty or a comment."""
    words = [word for word in line.split(" ") if word != ""]
    if len(words) > 0 and words[0].startswith("#"):
        return []
    return words


def run_script(text):
    """The lines that a script writes."""
    settings = Settings()
    lines = text.split("\n")
    found = []
    at = 0
    while at < len(lines):
        words = words_of(lines[at])
        # The line of a place is one more than the place.
        at += 1
        if len(words) == 0:
            continue
        word = words[0]
        if word == "row" or word == "claim" or word == "throws":
            set_numbers(settings, words, at)
        elif len(words) > 1:
            raise CommandError(at)
        elif word == "program" or word == "talk":
            at = set_text(settings, word, lines, at) + 1
        elif word == "clear" or word == "unclaim":
            take_away(settings, word)
        elif word in ASKED:
            found.extend(written(settings, word))
        else:
            raise CommandError(at)
    return found
