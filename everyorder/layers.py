"""What a level of a closed program does and whether it is whole, at a single size, if all levels beneath are whole.

An along level of a closed program stands on a level that does nothing or exchanges two places. By the calls that bring
these two places it is told whether it is whole, and what it does: its parity is 0 if these calls are even, and 1 if
they are odd or if there are none.
"""

from math import gcd

from everyorder.pieces import exchanged_at, joined_pieces, moved_at, place_at, rolled_at, stay, wider_pieces
from everyorder.rings import is_one_ring, ring_either_way
from everyorder.runs import Runs, nothing_runs, runs_of, runs_of_list, wider_runs
from everyorder.straights import ONE, ZERO, Reach, minus, times
from everyorder.tells import Double, does, double_of
from everyorder.words import place_of

# Sizes up to here are always closed: what their levels do is worked out as lists.
MOST_LISTED = 13


def does_nothing(ruling):
    """Tell whether a level does nothing, if it is whole and all beneath are."""
    return ruling.kind == "same" and ruling.to_end


def is_exchange(ruling):
    """Tell whether a level does one exchange, if it is whole and all beneath are."""
    return ruling.kind == "same" and not ruling.to_end and [move[0] for move in ruling.word.moves] == ["exchange"]


def is_closed(program, k):
    """Tell whether a size is closed."""
    if k <= MOST_LISTED or program.level(k).kind == "same":
        return True
    beneath = program.level(k - 1)
    return does_nothing(beneath) or is_exchange(beneath)


def open_from(program, low):
    """Return the least size from low on that is not closed; None if there is none."""
    first = max(low, MOST_LISTED + 1)
    for k in range(first, first + program.period):
        if not is_closed(program, k):
            return k
    return None


def places_exchanged(ruling, size):
    """Return the two places that a level of this size exchanges; none if it does nothing."""
    if does_nothing(ruling):
        return ()
    x, y = [place_of(text, size) for text in ruling.word.moves[0][1:]]
    if x == y or min(x, y) < 0 or max(x, y) >= size:
        return ()
    return x, y


def call_with(ruling, k, place):
    """Return the call of an along level whose step exchanges a place; the factor and k - 1 have no common divisor."""
    many = k - 1
    factor = abs(ruling.factor)
    ahead = place - place_of(ruling.place, k)
    if ruling.factor < 0:
        ahead = -ahead
    laps = 0
    while (ahead + laps * many) % factor > 0:
        laps = laps + 1
    return (ahead + laps * many) // factor % many


def along_parity(ruling, beneath, k):
    """Return the parity of an along level; None if it is not whole."""
    if gcd(ruling.factor, k - 1) > 1:
        return None
    parities = [call_with(ruling, k, place) % 2 for place in places_exchanged(beneath, k - 1)]
    if not parities:
        return 1
    return parities[0] if parities[0] == parities[1] else None


def pieces_exchanged(ruling, size, reach):
    """Return the pieces of what a level of this straight size does, with one place more: nothing, or an exchange."""
    if does_nothing(ruling):
        return wider_pieces(stay(size), size)
    return wider_pieces(moved_at(ruling.word.moves[0], size, reach), size)


def exchanged_ends(ruling, size, reach):
    """Return the pieces of the first step of an along level of a straight size; the step at the end is the same."""
    last = minus(size, ONE)
    start = place_at(ruling.place, size)
    return exchanged_at(size, minus(start, times(reach.quotient(start, last), last)), last)


def along_pieces(ruling, beneath, size, parity, reach):
    """Return the pieces of what a whole along level of a straight size does."""
    last = minus(size, ONE)
    # The places but the last one get their things as the calls follow one another, the first call's from the end.
    rolled = rolled_at(size, ZERO, minus(last, ONE), str(ruling.factor), reach)
    ends = exchanged_ends(ruling, size, reach)
    told = joined_pieces(rolled, ends, reach)
    below = pieces_exchanged(beneath, last, reach)
    if parity == 0:
        told = joined_pieces(joined_pieces(below, told, reach), below, reach)
    if size[1] % 2 == 1:
        told = joined_pieces(told, below, reach)
    if ruling.to_end:
        told = joined_pieces(told, ends, reach)
    return told


def along_runs(program, k, parity):
    """Return what the whole along level of size k does."""
    pieces = along_pieces(program.level(k), program.level(k - 1), (0, k), parity, Reach(0))
    return Runs(k, [(start, length, goal, way) for (_, start), (_, length), (_, goal), way in pieces])


def runs_done(program, k):
    """Return what level k, from 13 on, does; None if it is an along level that is not whole."""
    ruling = program.level(k)
    if does_nothing(ruling):
        return nothing_runs(k)
    if ruling.kind == "same":
        return ~runs_of(ruling.word, k)
    if k == MOST_LISTED:
        return runs_of_list(does(program, k))
    parity = along_parity(ruling, program.level(k - 1), k)
    return None if parity is None else along_runs(program, k, parity)


def runs_between(program, k):
    """Return what a same level of size k, from 14 on, does from call to call; None if what is beneath is not whole."""
    beneath = runs_done(program, k - 1)
    return None if beneath is None else wider_runs(beneath) * runs_of(program.level(k).word, k)


def is_whole_far(program, k):
    """Tell whether level k, from 14 on, is whole; all sizes to k are closed."""
    ruling = program.level(k)
    if ruling.kind == "along":
        return along_parity(ruling, program.level(k - 1), k) is not None
    between = runs_between(program, k)
    return between is not None and is_one_ring(between)


def double_far(program, k):
    """Return the Double of level k, from 14 on, which is not whole, though all beneath are."""
    ruling = program.level(k)
    if ruling.kind == "same":
        return Double(k, 0, ring_either_way(runs_between(program, k), k - 1))
    pair = places_exchanged(program.level(k - 1), k - 1)
    sources = ruling.partners(k, k - 1)
    for call in range(0, k - 1, 2):
        if sources[call] in pair:
            sources[call] = sum(pair) - sources[call]
    # The thing that comes to the end behind the later call of two with one source stood there ahead of the earlier one.
    told = double_of(sources)
    return Double(k, told.first, told.again + 1)
