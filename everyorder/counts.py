"""How often levels are called and steps are done while all orders are told."""

from math import factorial

from everyorder.checks import is_between
from everyorder.errors import BadNumber, BadSize
from everyorder.maps import in_turn
from everyorder.towers import check_size
from everyorder.words import exchanged


def calls_of(n, k):
    """Return how often level k is called while the orders of n things are told."""
    check_size(n, 1)
    if not is_between(k, 1, n):
        raise BadSize(k)
    return factorial(n) // factorial(k)


def steps_done(program, n):
    """Return how many steps are done while the orders of n things are told."""
    check_size(n, 1)
    return sum([calls_of(n, k) * program.level(k).many_steps(k) for k in range(2, n + 1)])


def exchanging_steps(ruling, k, low, high):
    """Return how many steps of one call of a level of size k exchange two places and move nothing else."""
    if ruling.kind == "same":
        is_exchange = ruling.word.at(k) == exchanged(list(range(k)), low, high)
        return ruling.many_steps(k) if is_exchange else 0
    if high < k - 1:
        return 0
    return ruling.partners(k, ruling.many_steps(k)).count(low)


def exchanges(program, n, x, y):
    """Return how many steps exchange two places and move nothing else while the orders of n things are told."""
    check_size(n, 1)
    for place in (x, y):
        if not is_between(place, 0, n - 1):
            raise BadNumber(place)
    if x == y:
        raise BadNumber(y)
    low = min(x, y)
    high = max(x, y)
    return sum([calls_of(n, k) * exchanging_steps(program.level(k), k, low, high) for k in range(high + 1, n + 1)])


def many_moved(row):
    """Return how many places do not keep their thing."""
    return len([place for place, goal in enumerate(row) if place != goal])


def moved_by_steps(ruling, k, ending):
    """Return for each step between two calls of a level of size k how many things it moves.

    Ahead of it the steps at the end of the levels beneath are done: the ending, which leaves the last place as it is.
    """
    if ruling.kind == "same":
        return [many_moved(in_turn(ending, ruling.word.at(k)))] * (k - 1)
    moved = many_moved(ending)
    # The thing of the last place comes to the other one, and what the ending brings there to the last place.
    return [moved + (2 if ending[place] == place else 1) for place in ruling.partners(k, k - 1)]


def changes(program, n):
    """Return how often how many things change their places between an order and the next one, as a dict."""
    check_size(n, 1)
    told = {}
    ending = [0]
    for k in range(2, n + 1):
        ruling = program.level(k)
        often = calls_of(n, k)
        ending = [*ending, k - 1]
        for moved in moved_by_steps(ruling, k, ending):
            told[moved] = told.get(moved, 0) + often
        if ruling.to_end:
            ending = in_turn(ending, ruling.step(k, k - 1))
    return told


def most_changed(program, n):
    """Return how many things change their places at the most between an order and the next one."""
    return max(list(changes(program, n)), default=0)
