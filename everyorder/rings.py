"""The rings of a rearrangement that is told by runs."""

from everyorder.checks import is_between
from everyorder.cutting import Cutting
from everyorder.errors import BadPlace, Mixed
from everyorder.maps import is_even
from everyorder.straights import ONE


def forward_rows(rows):
    """Return the runs as tuples (start, length, goal), with those that go backward taken place by place."""
    told = []
    for start, length, goal, way in rows:
        if way == 1:
            told.append((start, length, goal))
        else:
            told.extend([(start + index, 1, goal - index) for index in range(length)])
    return told


def cut_at(rows, place):
    """Return the forward runs, cut so that a place is a run of its own."""
    told = []
    for start, length, goal in rows:
        for low, high in ((start, place), (place, place + 1), (place + 1, start + length)):
            low = max(low, start)
            high = min(high, start + length)
            if low < high:
                told.append((low, high - low, goal + low - start))
    return told


def check_places(f, places):
    """Raise BadPlace for the first value that is no place; then Mixed if the runs do not go forward."""
    for place in places:
        if not is_between(place, 0, f.size - 1):
            raise BadPlace(place)
    if f.way != 1:
        raise Mixed()


def cut_rows(rows, marked):
    """Return the rings of forward runs as tuples (many, marks, places); places that are marked are runs of their own.

    All numbers are plain here, so the weights need no x: they count the marks in its place.
    """
    size = sum([length for _, length, _ in rows])
    runs = []
    for start, length, goal in rows:
        weight = (1, 1) if start in marked else ONE
        runs.append(((0, start), (0, length), (0, goal), weight))
    cutting = Cutting((0, size), runs, 0)
    cutting.cut()
    return [(many, marks, places) for (_, many), (marks, places) in cutting.found]


def rings_with(f, places):
    """Return pairs (marks, many): how many of the places, which are unlike, a ring has, and how many places in all."""
    rows = forward_rows(f.rows)
    for place in places:
        rows = cut_at(rows, place)
    return [(marks, many) for _, marks, many in cut_rows(rows, places)]


def counted_rings(rows):
    """Return the rings of runs of which few go backward, as rings_of does."""
    many_of = {}
    for many, _, places in cut_rows(forward_rows(rows), ()):
        many_of[places] = many_of.get(places, 0) + many
    return [(many_of[places], places) for places in sorted(many_of)]


def rings_of(f):
    """Return tuples (many, places): so many rings of so many places each, ascending by places."""
    check_places(f, ())
    return counted_rings(f.rows)


def ring_at(f, j):
    """Return of how many places the ring with place j is."""
    check_places(f, (j,))
    return [places for marks, places in rings_with(f, (j,)) if marks == 1][0]


def in_one_ring(f, i, j):
    """Tell whether the places i and j are in one ring."""
    check_places(f, (i, j))
    if i == j:
        return True
    return any([marks == 2 for marks, _ in rings_with(f, (i, j))])


def is_odd(f):
    """Tell whether f can be made of an odd number of exchanges of two things."""
    turned = sum([length * (length - 1) // 2 for _, length, _, way in f.rows if way == -1])
    # Two runs that stand the other way round count only if both have odd lengths.
    goals = [goal for _, length, goal, _ in f.rows if length % 2 == 1]
    index_of = {goal: index for index, goal in enumerate(sorted(goals))}
    return (turned % 2 == 1) == is_even([index_of[goal] for goal in goals])


def is_one_ring(f):
    """Tell whether all places are in one ring."""
    if f.way == 0:
        raise Mixed()
    if f.way == 1:
        return counted_rings(f.rows) == [(1, f.size)]
    told = counted_rings((f * f).rows)
    if f.size % 2 == 1:
        return told == [(1, f.size)]
    return told == [(2, f.size // 2)] and is_odd(f)


def ring_either_way(f, j):
    """Return of how many places the ring with a place is; the runs may also go backward."""
    if f.way == 1:
        return ring_at(f, j)
    # Done twice, f goes forward. Then a ring of an even number of places becomes two, and f leads to the other one.
    twice_done = f * f
    many = ring_at(twice_done, j)
    return many if in_one_ring(twice_done, j, f.at(j)) else 2 * many
