"""Levels, which tell the steps of one size, and programs, which have a level for each size."""

from everyorder.checks import is_between, is_from, is_integer
from everyorder.errors import BadCall, BadNumber, BadSize, BadText, BadWord, NoLevel
from everyorder.maps import MOST_PLACES
from everyorder.towers import Tower
from everyorder.words import (AMOUNT_FRONTS, NO_PART, Word, exchanged, is_figure_behind, is_place_word, place_of,
                              read_moves)

# The sizes that may have a line of their own, and lists.
LEAST_SINGLE = 2
MOST_SINGLE = 12
MOST_PERIOD = 6
ENDING = ("to", "the", "end")


def read_along(parts):
    """Return the index of the part behind the factor and the place of an along level."""
    if not is_figure_behind(AMOUNT_FRONTS, parts[1]):
        raise BadWord(1)
    if not is_place_word(parts[2]):
        raise BadWord(2)
    return 3


def read_list(parts, size):
    """Return the index of the part behind the places of a list, of which this size has one less, or as many."""
    places = [str(place) for place in range(size - 1)]
    behind = 1
    while behind <= size and parts[behind] in places:
        behind = behind + 1
    if behind < size:
        raise BadWord(behind)
    return behind


def read_body(parts, size):
    """Return the index of the part behind the word, the factor and place, or the list."""
    if parts[0] == "same":
        return read_moves(parts, 1)[1]
    if parts[0] == "along":
        return read_along(parts)
    if parts[0] == "list" and size is not None:
        return read_list(parts, size)
    raise BadWord(0)


def read_level(parts, size):
    """Return the index of the part behind the body of a level, and whether the level goes to the end.

    The last one of the parts is NO_PART.
    """
    behind = read_body(parts, size)
    stop = len(parts) - 1
    if parts[0] == "list":
        # The number of its places tells already whether a list must go to the end.
        goes_on = behind > size
    else:
        goes_on = behind < stop
    if goes_on:
        for index, told in enumerate(ENDING, start=behind):
            if parts[index] != told:
                raise BadWord(index)
    end = behind + len(ENDING) if goes_on else behind
    if end < stop:
        raise BadWord(end)
    return behind, goes_on


class Level:
    """A text that tells the steps of one size."""

    def __init__(self, text, size=None):
        if size is not None and not is_between(size, LEAST_SINGLE, MOST_SINGLE):
            raise BadSize(size)
        parts = text.split(" ")
        behind, goes_on = read_level([*parts, NO_PART], size)
        self.text = text
        self.kind = parts[0]
        self.to_end = goes_on
        self.word = None
        self.factor = None
        self.place = None
        self.entries = None
        if self.kind == "same":
            self.word = Word(" ".join(parts[1:behind]))
        elif self.kind == "along":
            self.factor = int(parts[1])
            self.place = parts[2]
        else:
            self.entries = tuple([int(part) for part in parts[1:behind]])

    def __eq__(self, other):
        return isinstance(other, Level) and self.text == other.text

    def many_steps(self, k):
        """Return how many steps are done in a call of size k."""
        if not is_from(k, 2):
            raise BadSize(k)
        many = k if self.to_end else k - 1
        if self.kind == "list" and len(self.entries) != many:
            raise BadSize(k)
        return many

    def partner(self, k, i):
        """Return the place that the step behind call i exchanges with the last one; None for a word."""
        if not is_between(i, 0, self.many_steps(k) - 1):
            raise BadCall(i)
        if self.kind == "same":
            return None
        if self.kind == "along":
            return (self.factor * i + place_of(self.place, k)) % (k - 1)
        return self.entries[i]

    def partners(self, k, many):
        """Return the places that the first steps exchange with the last one; the level is not of kind same."""
        if self.kind == "list":
            return list(self.entries[:many])
        start = place_of(self.place, k)
        return [(self.factor * call + start) % (k - 1) for call in range(many)]

    def step(self, k, i):
        """Return the step behind call i as a rearrangement."""
        if not is_between(k, 2, MOST_PLACES):
            raise BadSize(k)
        place = self.partner(k, i)
        if place is None:
            return self.word.at(k)
        return exchanged(list(range(k)), place, k - 1)


def read_line(line, number, head, size=None):
    """Return the level that stands behind the head in a line with this number."""
    if not line.startswith(head):
        raise BadText(number)
    try:
        return Level(line.removeprefix(head), size)
    except BadWord:
        raise BadText(number) from None


def read_period(line):
    """Return the period that the first line tells."""
    for period in range(1, MOST_PERIOD + 1):
        if line == f"period {period}":
            return period
    raise BadText(1)


def read_rests(lines, period):
    """Return the levels of the rests as a tuple."""
    rests = []
    for rest in range(period):
        if rest + 1 == len(lines):
            raise BadText(len(lines) + 1)
        rests.append(read_line(lines[rest + 1], rest + 2, f"rest {rest} "))
    return tuple(rests)


def read_size(line, number, low):
    """Return the size of a line for a single level, which must be from low on."""
    for size in range(low, MOST_SINGLE + 1):
        if line.startswith(f"level {size} "):
            return size
    raise BadText(number)


def read_singles(lines, first):
    """Return the single levels by their sizes; their lines stand from the index first on."""
    singles = {}
    low = LEAST_SINGLE
    for index in range(first, len(lines)):
        size = read_size(lines[index], index + 1, low)
        singles[size] = read_line(lines[index], index + 1, f"level {size} ", size)
        low = size + 1
    return singles


def text_of_program(rests, singles):
    """Return the text of the program with these levels for the rests and for single sizes."""
    lines = [f"period {len(rests)}"]
    for rest, told in enumerate(rests):
        lines.append(f"rest {rest} {told.text}")
    for size in sorted(singles):
        lines.append(f"level {size} {singles[size].text}")
    return "\n".join(lines)


class Program:
    """A text that tells a level for each size."""

    def __init__(self, text):
        lines = text.split("\n")
        self.text = text
        self.period = read_period(lines[0])
        self.rests = read_rests(lines, self.period)
        self._singles = read_singles(lines, self.period + 1)
        self.sizes = tuple(self._singles)
        # The levels never change, so what they do need be worked out only once.
        self.tower = Tower()

    def __eq__(self, other):
        return isinstance(other, Program) and self.text == other.text

    def level(self, k):
        """Return the level of size k."""
        if not is_from(k, 2):
            raise BadSize(k)
        if k in self._singles:
            return self._singles[k]
        return self.rests[k % self.period]

    def step(self, k, i):
        """Return the step of size k behind call i as a rearrangement."""
        return self.level(k).step(k, i)

    def with_level(self, k, text):
        """Return a program that has this level for size k alone."""
        if not is_between(k, LEAST_SINGLE, MOST_SINGLE):
            raise BadSize(k)
        singles = dict(self._singles)
        singles[k] = Level(text, k)
        return Program(text_of_program(self.rests, singles))

    def without_level(self, k):
        """Return a program that has no line of its own for size k."""
        if not is_integer(k) or k not in self._singles:
            raise NoLevel(k)
        singles = dict(self._singles)
        del singles[k]
        return Program(text_of_program(self.rests, singles))

    def with_rest(self, r, text):
        """Return a program that has this level for a rest."""
        if not is_between(r, 0, self.period - 1):
            raise BadNumber(r)
        rests = list(self.rests)
        rests[r] = Level(text)
        return Program(text_of_program(rests, self._singles))
