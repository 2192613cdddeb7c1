"""The errors of the program (point 1)."""


class LayeraskError(ValueError):
    """The base class of all errors of the program."""


class FieldError(LayeraskError):
    """A modulus that is not allowed, or a number without an inverse."""

    def __init__(self, number):
        # The number itself is no part of the message: Python refuses to write very long ones.
        super().__init__("not allowed as a modulus, or without an inverse")
        self.number = number


class CircuitError(LayeraskError):
    """An invalid circuit, or rows or outputs that do not fit it."""

    def __init__(self, part):
        super().__init__(f"wrong part: {part}")
        self.part = part


class TalkError(LayeraskError):
    """A step of a conversation at a wrong place."""

    def __init__(self, step):
        super().__init__(f"wrong step: {step}")
        self.step = step


class TextError(LayeraskError):
    """A text that is not a conversation, or not a program."""

    def __init__(self, line):
        super().__init__(f"wrong text in line {line}")
        self.line = line


class ProgramError(LayeraskError):
    """An invalid program."""

    def __init__(self, kind, line):
        super().__init__(f"wrong program in line {line}: {kind}")
        self.kind = kind
        self.line = line


class SizeError(LayeraskError):
    """Something larger than a limit."""

    def __init__(self, limit):
        super().__init__(f"larger than the limit: {limit}")
        self.limit = limit


class CommandError(LayeraskError):
    """An invalid command of the console."""

    def __init__(self, line):
        super().__init__(f"wrong command in line {line}")
        self.line = line
