"""The errors that the program raises.

What an error is about may be nested to any depth, so that it stands in an attribute, not in the message.
"""


class LeastError(ValueError):
    """The base class of all errors that the program raises."""


class TooLarge(LeastError):
    """There are more levels, classes, examples, properties or rows than there may be."""

    def __init__(self, limit):
        super().__init__(f"too many {limit}")
        self.limit = limit


class InvalidValue(LeastError):
    """Something is not the value that is needed at its place."""

    def __init__(self, value):
        super().__init__("not the value that is needed here")
        self.value = value


class InvalidProgram(LeastError):
    """A part of a program has an error."""

    def __init__(self, part):
        super().__init__("a part of the program has an error")
        self.part = part


class InvalidTask(LeastError):
    """A task is not valid."""

    def __init__(self, reason):
        super().__init__(f"the task is not valid: {reason}")
        self.reason = reason


class InvalidRow(LeastError):
    """A row does not have the values that the inputs need, or is one too many."""

    def __init__(self, index):
        super().__init__(f"the row at index {index} is not valid")
        self.index = index


class NotFound(LeastError):
    """There is nothing of this name or number."""

    def __init__(self, name):
        super().__init__(f"not found: {name}")
        self.name = name


class Malformed(LeastError):
    """A text or a list of lines is not a written form."""

    def __init__(self, index):
        super().__init__(f"malformed at {index}")
        self.index = index


class Stopped(LeastError):
    """The work was stopped."""
