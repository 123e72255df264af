"""The errors of the package. [17]"""


class NodesError(Exception):
    """The base class of all errors of the package."""


class BadValue(NodesError):
    """An argument is not as described; at is its place, from 1 on."""

    def __init__(self, at):
        self.at = at


class BadState(NodesError):
    """A state of a world is wrong; at is the number of the first such state."""

    def __init__(self, at):
        self.at = at


class BadRow(NodesError):
    """A demand state is wrong; at is the number of the first such demand state."""

    def __init__(self, at):
        self.at = at


class BadRun(NodesError):
    """A run is wrong; at is the place of the first wrong move, or -1."""

    def __init__(self, at):
        self.at = at


class TooMany(NodesError):
    """There would be too many of what the word names."""

    def __init__(self, word):
        self.word = word


class BadSyntax(NodesError):
    """A text does not have the form; at is the number of the first wrong line, from 0 on."""

    def __init__(self, at):
        self.at = at


class BadLine(NodesError):
    """A log has a line of no form; at is its number, from 0 on."""

    def __init__(self, at):
        self.at = at
