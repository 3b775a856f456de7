"""Lists that make a level whole, with few changes."""

from math import factorial

from everyorder.checks import is_between
from everyorder.errors import BadRow, BadSize, NoList
from everyorder.maps import led, seats_of
from everyorder.programs import MOST_SINGLE, Program
from everyorder.towers import check_size, tower_of

LEAST = 2


def goes_by_list(ruling):
    """Tell whether a level goes by a list."""
    return ruling.kind != "same" and not ruling.to_end


def sources_of(seats, entries):
    """Return the places at the beginning of a level of the things that the entries bring to the end."""
    return [led(seats, place, call + 1) for call, place in enumerate(entries)]


def seats_beneath(program, k):
    """Return the seats of what level k - 1 does."""
    return seats_of(tower_of(program, k - 1).doings[k - 1])


def changed(sources):
    """Return the sources with new ones, ascending, in the place of those that have come before; None for the others."""
    has_come = {}
    missing = [place for place in range(len(sources)) if place not in sources]
    told = []
    for source in sources:
        if source in has_come:
            told.append(missing[len(told) - len(has_come)])
        else:
            told.append(None)
            has_come[source] = True
    return told


def nearest(program, k):
    """Return how many entries of level k must be changed so that it is whole, and a list that is right with so many."""
    check_size(k, LEAST)
    ruling = program.level(k)
    if not goes_by_list(ruling):
        raise NoList(k)
    entries = ruling.partners(k, k - 1)
    seats = seats_beneath(program, k)
    changes = 0
    for call, source in enumerate(changed(sources_of(seats, entries))):
        if source is not None:
            entries[call] = led(seats, source, -call - 1)
            changes = changes + 1
    return changes, tuple(entries)


def check_entries(entries, k):
    """Raise BadRow for the first index at which a list of level k is wrong."""
    for index, place in enumerate(entries):
        if index == k - 1 or not is_between(place, 0, k - 2):
            raise BadRow(index)
    if len(entries) < k - 1:
        raise BadRow(len(entries))


def is_right(program, k, entries):
    """Tell whether level k would be whole if it went by this list."""
    check_size(k, LEAST)
    check_entries(entries, k)
    return len(set(sources_of(seats_beneath(program, k), entries))) == k - 1


def right_lists(k):
    """Return how many lists are right for level k."""
    check_size(k, LEAST)
    return factorial(k - 1)


def mended(program, n):
    """Return a program whose levels to n are whole, with lists in the place of those that are not."""
    if not is_between(n, 1, MOST_SINGLE):
        raise BadSize(n)
    told = Program(program.text)
    for k in range(LEAST, n + 1):
        # The levels beneath are whole by now.
        if told.tower.least_not_whole(told, k) is not None:
            entries = nearest(told, k)[1]
            told = told.with_level(k, " ".join(["list", *[str(place) for place in entries]]))
    return told
