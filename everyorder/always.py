"""Whether a program tells each order once for every n."""

from everyorder.checks import is_between
from everyorder.errors import BadNumber, BadSize, NotClosed
from everyorder.fails import failing_sizes, least_failing
from everyorder.layers import double_far, open_from
from everyorder.runs import exchange_runs
from everyorder.shapes import made_by, open_at
from everyorder.tells import double_of
from everyorder.towers import MOST_LEVELS, Tower

# So many sizes are worked out as lists before all sizes are taken at once: most programs that are wrong fail early.
FIRST_SIZES = 40


def first_wrong(program, stop):
    """Return the Double of the least level above a stop that is not whole; None if there is none.

    From two levels above the stop on, levels that stand on whole ones do what they do in the program itself.
    """
    open_size = open_from(program, stop + 2)
    high = max(FIRST_SIZES, stop + 2) if open_size is None else open_size - 1
    tower = Tower(stop)
    k = tower.least_not_whole(program, high)
    if k is not None:
        return double_of(tower.lasts[k])
    if open_size is not None:
        raise NotClosed(open_size)
    k = least_failing(program, high + 1)
    return None if k is None else double_far(program, k)


def wrong_at(program):
    """Return the Double of the least size whose level is not whole; None if each order is told once for every n."""
    return first_wrong(program, 1)


def failing(program, rest):
    """Return the sizes from 14 on with a rest by the period whose levels are not whole."""
    if not is_between(rest, 0, program.period - 1):
        raise BadNumber(rest)
    size = open_at(program)
    if size is not None:
        raise NotClosed(size)
    return failing_sizes(program, rest)


def parts_at(program, h):
    """Return None if above size h each choice and order of the last things comes once; otherwise the first Double."""
    if not is_between(h, 1, MOST_LEVELS):
        raise BadSize(h)
    return first_wrong(program, h)


def closing(program, n):
    """Return what leads from the row as level n leaves it back to the first order, as Runs."""
    return ~made_by(program, n)


def is_round(program, n):
    """Tell whether the row as level n leaves it is the first order but for two things, which are exchanged."""
    told = closing(program, n)
    moved = [(start, goal) for start, _, goal, _ in told.rows if start != goal]
    return bool(moved) and told == exchange_runs(n, moved[0][0], moved[0][1])
