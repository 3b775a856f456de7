"""What the levels of a program do, and whether each order is told once."""

from math import factorial

from everyorder.checks import is_between
from everyorder.errors import BadCall
from everyorder.numbering import number_of, row_in_call
from everyorder.towers import check_size, tower_of


class Double:
    """The least size whose level is not whole, and two of its calls with one thing on the last place."""

    def __init__(self, size, first, again):
        self.size = size
        self.first = first
        self.again = again

    def __eq__(self, other):
        if not isinstance(other, Double):
            return False
        return self.size == other.size and self.first == other.first and self.again == other.again


def double_of(things):
    """Return the Double that the things on the last place ahead of the calls make; None if all are unlike."""
    calls = {}
    for call, thing in enumerate(things):
        if thing in calls:
            return Double(len(things), calls[thing], call)
        calls[thing] = call
    return None


def double(program, n):
    """Return the least size to n whose level is not whole, with the two calls; None if all are whole."""
    check_size(n, 1)
    k = program.tower.least_not_whole(program, n)
    return None if k is None else double_of(program.tower.lasts[k])


def twice(program, n):
    """Return the numbers of the first row that has been told before; None if there is none."""
    found = double(program, n)
    if found is None:
        return None
    tower = program.tower
    k = found.size
    rows = factorial(k - 1)
    # The levels beneath are whole, so the earlier call tells the first row of the later one just once.
    row = row_in_call(tower, k, found.first, tower.ahead(k, found.again))
    return found.first * rows + number_of(tower, k - 1, row), found.again * rows


def does(program, k):
    """Return what one call of level k does as a whole."""
    check_size(k, 1)
    return list(tower_of(program, k).doings[k])


def before(program, k, d):
    """Return what level k has done ahead of its call d."""
    check_size(k, 2)
    if not is_between(d, 0, k - 1):
        raise BadCall(d)
    return tower_of(program, k).ahead(k, d)


def lasts(program, k):
    """Return the things on place k - 1 ahead of the calls of level k, as a tuple."""
    check_size(k, 2)
    return tower_of(program, k).lasts[k]
