"""The errors of the package.

Each keeps what it is made from, which may be any value, in an attribute.
No message is made of the value: the text of a very long integer cannot be told.
"""


class EveryError(ValueError):
    """The class above all errors of the package."""


class BadWord(EveryError):
    """A part of a text, counted from 0, that cannot stand there."""

    def __init__(self, index):
        self.index = index


class BadText(EveryError):
    """A line of a text, counted from 1, that cannot stand there."""

    def __init__(self, line):
        self.line = line


class BadSize(EveryError):
    """A size that is none, or that does not fit."""

    def __init__(self, size):
        self.size = size


class BadCall(EveryError):
    """A call that a level does not have."""

    def __init__(self, call):
        self.call = call


class BadNumber(EveryError):
    """A number that is none, or that is beyond what there is."""

    def __init__(self, number):
        self.number = number


class BadPlace(EveryError):
    """A place that a row does not have."""

    def __init__(self, place):
        self.place = place


class BadThing(EveryError):
    """A thing that a row does not have."""

    def __init__(self, thing):
        self.thing = thing


class BadRow(EveryError):
    """A member of a row, counted from 0, that cannot stand there."""

    def __init__(self, index):
        self.index = index


class NotWhole(EveryError):
    """A size whose level is not whole."""

    def __init__(self, size):
        self.size = size


class NotClosed(EveryError):
    """A size that is not closed."""

    def __init__(self, size):
        self.size = size


class NoLevel(EveryError):
    """A size that has no line of its own."""

    def __init__(self, size):
        self.size = size


class NoList(EveryError):
    """A size whose level does not go by a list."""

    def __init__(self, size):
        self.size = size


class Mixed(EveryError):
    """Runs that go both ways, where one way is needed."""


class NothingToUndo(EveryError):
    """There is no deed that could be taken back."""
