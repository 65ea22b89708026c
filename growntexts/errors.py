"""The errors of the package.

None of them but GrowError is a base of another one, so that catching one
never catches another one by chance.
"""


class GrowError(ValueError):
    """The base of all errors of the package but NoMode."""


class InvalidSetting(GrowError):
    """An argument of a setting is wrong; word is its name."""

    def __init__(self, word):
        self.word = word


class InvalidProgram(GrowError):
    """An argument of a program is wrong; word is its name."""

    def __init__(self, word):
        self.word = word


class InvalidShape(GrowError):
    """An argument of a shape is wrong; word is its name."""

    def __init__(self, word):
        self.word = word


class InvalidText(GrowError):
    """A text is wrong; at is the number of the first wrong line or sign."""

    def __init__(self, at):
        self.at = at


class InvalidInput(GrowError):
    """An input is wrong; at is the number of the first thing that is no letter."""

    def __init__(self, at):
        self.at = at


class InvalidRow(GrowError):
    """A row or a relation is wrong; at is the number of the first wrong thing."""

    def __init__(self, at):
        self.at = at


class InvalidPair(GrowError):
    """Two things do not go together; word names what they differ in."""

    def __init__(self, word):
        self.word = word


class InvalidCommand(GrowError):
    """A desk does not know such a command."""


class Refused(GrowError):
    """A live reader refused letters; at is the number of the first wrong one."""

    def __init__(self, at):
        self.at = at


class NoMode(IndexError):
    """A program has no such mode."""

    def __init__(self, mode):
        self.mode = mode
