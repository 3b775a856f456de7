"""Closed programs: which are so, and what their levels do at sizes of any kind."""

from everyorder.checks import is_between
from everyorder.errors import BadSize, NotClosed, NotWhole
from everyorder.fails import least_failing
from everyorder.layers import MOST_LISTED, is_whole_far, open_from, runs_done
from everyorder.runs import MOST_SIZE, nothing_runs, runs_of_list
from everyorder.tells import does, lasts
from everyorder.towers import MOST_LEVELS, whole_tower

LEAST = 2


def check_closed(program, k):
    """Raise NotClosed if a size up to k is not closed."""
    size = open_at(program)
    if size is not None and size <= k:
        raise NotClosed(size)


def check_all_whole(program, k):
    """Raise NotWhole if not all levels to k are whole; all sizes to k are closed."""
    listed = min(k, MOST_LEVELS)
    whole_tower(program, listed)
    # A program that is closed so far is closed altogether.
    size = least_failing(program, listed + 1) if listed < k else None
    if size is not None and size <= k:
        raise NotWhole(size)


def open_at(program):
    """Return the least size that is not closed; None if all are closed."""
    return open_from(program, LEAST)


def made_by(program, k):
    """Return what level k does, as Runs."""
    if not is_between(k, 1, MOST_SIZE):
        raise BadSize(k)
    check_closed(program, k)
    check_all_whole(program, k)
    if k == 1:
        return nothing_runs(k)
    return runs_of_list(does(program, k)) if k <= MOST_LISTED else runs_done(program, k)


def is_whole(program, k):
    """Tell whether level k would be whole if all levels beneath it were."""
    if not is_between(k, LEAST, MOST_SIZE):
        raise BadSize(k)
    check_closed(program, k)
    if k <= MOST_LISTED:
        return len(set(lasts(program, k))) == k
    return is_whole_far(program, k)
