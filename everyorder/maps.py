"""Rearrangements: lists that tell for each place where its thing comes from."""

from everyorder.checks import first_wrong, is_between, is_integer
from everyorder.errors import BadNumber, BadRow, BadSize

# The greatest size at which a function makes a rearrangement as a list.
MOST_PLACES = 1000


def check_row(row):
    """Raise BadRow for the first member that no rearrangement has there."""
    wrong = first_wrong(row, len(row))
    if wrong is not None:
        raise BadRow(wrong)


def nothing(size):
    """Return the rearrangement that moves nothing."""
    if not is_between(size, 0, MOST_PLACES):
        raise BadSize(size)
    return list(range(size))


def joined(first, second):
    """Return what does first what first does, and then what second does."""
    check_row(first)
    check_row(second)
    if len(first) != len(second):
        raise BadSize(len(second))
    return in_turn(first, second)


def in_turn(first, second):
    """Return what joined does, of rows that are known to be rearrangements of one size."""
    return [first[place] for place in second]


def undone(row):
    """Return the rearrangement that takes this one back."""
    check_row(row)
    return back_from(row)


def back_from(row):
    """Return what undone does, of a row that is known to be a rearrangement."""
    back = list(row)
    for index, place in enumerate(row):
        back[place] = index
    return back


def done(row, things):
    """Return the list that the list of things becomes."""
    check_row(row)
    if len(things) != len(row):
        raise BadSize(len(things))
    return [things[place] for place in row]


def repeated(row, many):
    """Return what the rearrangement does if it is done many times; taken back, if many is negative."""
    check_row(row)
    if not is_integer(many):
        raise BadNumber(many)
    seats = seats_of(row)
    return [led(seats, place, many) for place in range(len(row))]


def seats_of(row):
    """Return for each place its ring and its index in it; the row is known to be a rearrangement."""
    seats = [None] * len(row)
    for ring in rings_in(row):
        for index, place in enumerate(ring):
            seats[place] = (ring, index)
    return seats


def led(seats, place, many):
    """Return the place from which a place gets its thing if the rearrangement with these seats is done many times."""
    ring, index = seats[place]
    # A ring comes round after as many times as it has places, so many may be of any size.
    return ring[(index + many) % len(ring)]


def rings(row):
    """Return the rings as tuples, in the order of their least places, with which they begin."""
    check_row(row)
    return rings_in(row)


def rings_in(row):
    """Return what rings does, of a row that is known to be a rearrangement."""
    found = []
    is_told = [False] * len(row)
    for start in range(len(row)):
        if not is_told[start]:
            ring = ring_from(row, start)
            for place in ring:
                is_told[place] = True
            found.append(ring)
    return found


def ring_from(row, start):
    """Return the ring of a place, beginning with it."""
    places = [start]
    place = row[start]
    while place != start:
        places.append(place)
        place = row[place]
    return tuple(places)


def is_even(row):
    """Tell whether the rearrangement can be made of an even number of exchanges of two things."""
    return (len(row) - len(rings(row))) % 2 == 0
