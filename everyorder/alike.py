"""Whether two programs tell the same rows, one after the other.

The gap of a size leads from the row as the level of this size of the one program leaves it to that of the other one.
"""

from math import factorial, lcm

from everyorder.layers import exchanged_ends
from everyorder.pieces import is_nothing, joined_pieces, pieces_of, stay, undone_pieces, wider_pieces
from everyorder.runs import exchange_runs, nothing_runs, runs_of, wider_runs
from everyorder.straights import ONE, Reach, minus
from everyorder.towers import check_size

# From here on along levels with other factors part, and a word parts from an along level.
FAR = 24
# By how many rests all places and blocks of words are straight.
STRAIGHT = 4


def step_done(ruling, k, call):
    """Return the step of a level of size k behind a call, as Runs."""
    place = ruling.partner(k, call)
    return runs_of(ruling.word, k) if place is None else exchange_runs(k, place, k - 1)


def calls_to_compare(one, other, k):
    """Return the calls of which one is the first behind which two levels of size k part, if they do."""
    kinds = (one.kind, other.kind)
    if kinds == ("same", "same"):
        return [0]
    # Of levels that go along, or stay the same, each step follows from the first two.
    return list(range(k - 1 if "list" in kinds else min(k - 1, 2)))


class Walk:
    """Two programs, level by level, up to the first level that is unlike."""

    def __init__(self, one, other):
        self.one = one
        self.other = other
        # All levels up to this size are alike.
        self.size = 1
        self.gap = nothing_runs(1)

    def on(self):
        """Go on by a level. Return None if it is alike; otherwise the first call ahead of which the rows part."""
        k = self.size + 1
        one = self.one.level(k)
        other = self.other.level(k)
        gap = wider_runs(self.gap)
        for call in calls_to_compare(one, other, k):
            if step_done(one, k, call) != gap * step_done(other, k, call):
                return call + 1
        if one.to_end:
            gap = ~step_done(one, k, k - 1) * gap
        if other.to_end:
            gap = gap * step_done(other, k, k - 1)
        self.size = k
        self.gap = gap
        return None

    def on_to(self, size):
        """Go on to a size. Return None if all is alike; otherwise the size of the first unlike level and its call."""
        while self.size < size:
            call = self.on()
            if call is not None:
                return self.size + 1, call
        return None


def number_parted(found):
    """Return the number of the row at which a level parts in a call."""
    k, call = found
    return call * factorial(k - 1)


def step_pieces(ruling, size, reach):
    """Return the pieces of the first step of a level of a straight size; it is also the step behind the last call."""
    if ruling.kind == "same":
        return pieces_of(ruling.word, size, reach)
    return exchanged_ends(ruling, size, reach)


def pieces_between(program, k, size, reach):
    """Return the pieces of the step of the level beneath, taken back, and behind it those of the step of the level.

    If the level beneath goes to the end, it has done its step, and the step of the level stands alone. The size is
    straight; the levels are those of size k. Two levels are alike exactly if these pieces are and the factors are.
    """
    last = minus(size, ONE)
    beneath = program.level(k - 1)
    below = stay(last) if beneath.to_end else undone_pieces(step_pieces(beneath, last, reach))
    return joined_pieces(wider_pieces(below, last), step_pieces(program.level(k), size, reach), reach)


def is_class_alike(one, other, k, size, reach):
    """Tell whether the levels of straight sizes, like that of size k, are alike if all beneath are."""
    ruling = one.level(k)
    beside = other.level(k)
    if ruling.kind != beside.kind or ruling.factor != beside.factor:
        return False
    if ruling == beside and one.level(k - 1) == other.level(k - 1):
        return True
    told = undone_pieces(pieces_between(one, k, size, reach))
    return is_nothing(joined_pieces(told, pieces_between(other, k, size, reach), reach), reach)


def alike_from(one, other):
    """Return a size from which on all levels are alike if all beneath are; None if there is none."""
    modulus = lcm(one.period, lcm(other.period, STRAIGHT))
    first = FAR
    for k in range(FAR, FAR + modulus):
        reach = Reach(0)
        if not is_class_alike(one, other, k, (modulus, k), reach):
            return None
        first = max(first, modulus * (reach.low - 1) + k + 1)
    return first


def parting(one, other, n):
    """Return the number of the first order of n things that the programs tell unlike; None if there is none."""
    check_size(n, 1)
    found = Walk(one, other).on_to(n)
    return None if found is None else number_parted(found)


def alike(one, other):
    """Return the least n for which the programs do not tell the same, and the number; None if there is none."""
    walk = Walk(one, other)
    found = walk.on_to(FAR)
    if found is None:
        size = alike_from(one, other)
        if size is not None:
            found = walk.on_to(size)
        else:
            # There are unlike levels, so one is met.
            while found is None:
                found = walk.on_to(walk.size + 1)
    return None if found is None else (found[0], number_parted(found))
