"""Rearrangements of many places, told by runs.

A run is a tuple (start, length, goal, way): the place start + j gets the thing of the place goal + way * j.
"""

from everyorder.checks import is_between
from everyorder.errors import BadPlace, BadSize
from everyorder.maps import MOST_PLACES, check_row
from everyorder.words import place_of

MOST_SIZE = 10 ** 30
# So many places may go against the others.
FEW = 100


def common_way(run, other):
    """Return the way of the one run that two neighbours make together; 0 if they make none."""
    for way in (1, -1):
        if (run[1] == 1 or run[3] == way) and (other[1] == 1 or other[3] == way):
            if other[2] == run[2] + way * run[1]:
                return way
    return 0


def one_form(pieces):
    """Return the tuple of the runs that ascending pieces make, each as long as it can be."""
    rows = []
    for start, length, goal, way in pieces:
        piece = (start, length, goal, 1 if length == 1 else way)
        common = common_way(rows[-1], piece) if rows else 0
        if common == 0:
            rows.append(piece)
        else:
            first = rows[-1]
            rows[-1] = (first[0], first[1] + length, first[2], common)
    return tuple(rows)


def way_of(size, rows):
    """Return the way of a rearrangement: 1 or -1 if few places go the other way, otherwise 0."""
    backward = sum([length for _, length, _, way in rows if way == -1])
    if backward <= FEW:
        return 1
    return -1 if size - backward <= FEW else 0


def index_of_run(rows, place):
    """Return the index of the run in which a place is."""
    low = 0
    high = len(rows) - 1
    while low < high:
        middle = (low + high + 1) // 2
        if rows[middle][0] <= place:
            low = middle
        else:
            high = middle - 1
    return low


def goal_of(run, place):
    """Return the place from which a place of a run gets its thing."""
    return run[2] + run[3] * (place - run[0])


def led_on(rows, run):
    """Return the pieces of a run, if the goals that it had lead on as the rows tell."""
    start, left, goal, way = run
    pieces = []
    index = index_of_run(rows, goal)
    while left > 0:
        told = rows[index]
        many = told[0] + told[1] - goal if way == 1 else goal - told[0] + 1
        many = min(many, left)
        pieces.append((start, many, goal_of(told, goal), way * told[3]))
        start = start + many
        goal = goal + way * many
        left = left - many
        index = index + way
    return pieces


def taken_back(run):
    """Return the run that leads the goals of a run back."""
    start, length, goal, way = run
    if way == 1:
        return goal, length, start, 1
    return goal - length + 1, length, start + length - 1, -1


class Runs:
    """A rearrangement that is told by its runs."""

    def __init__(self, size, pieces):
        self.size = size
        self.rows = one_form(pieces)
        self.way = way_of(size, self.rows)

    def __eq__(self, other):
        return isinstance(other, Runs) and self.rows == other.rows

    def __mul__(self, other):
        if not isinstance(other, Runs):
            return NotImplemented
        if self.size != other.size:
            raise BadSize(other.size)
        return Runs(self.size, [piece for run in other.rows for piece in led_on(self.rows, run)])

    def __invert__(self):
        return Runs(self.size, sorted([taken_back(run) for run in self.rows]))

    def at(self, j):
        """Return the place from which place j gets its thing."""
        if not is_between(j, 0, self.size - 1):
            raise BadPlace(j)
        return goal_of(self.rows[index_of_run(self.rows, j)], j)


def check_far_size(k):
    """Raise BadSize if the value is no size for runs."""
    if not is_between(k, 1, MOST_SIZE):
        raise BadSize(k)


def moved_block(k, x, y, pieces):
    """Return the rearrangement that moves a block from x to y as the pieces tell."""
    around = [(0, x, 0, 1), *pieces, (y + 1, k - y - 1, y + 1, 1)]
    return Runs(k, [piece for piece in around if piece[1] > 0])


def move_runs(move, k):
    """Return what a move of a word does with k places."""
    if move[0] == "turn":
        return Runs(k, [(0, k, k - 1, -1)])
    x = place_of(move[1], k)
    y = place_of(move[2], k)
    if move[0] == "exchange":
        return exchange_runs(k, x, y)
    return roll_runs(k, x, y, None if move[3] == "half" else int(move[3]))


def runs_of(word, k):
    """Return what a word does with k places."""
    runs = nothing_runs(k)
    for move in word.moves:
        runs = runs * move_runs(move, k)
    return runs


def runs_of_list(row):
    """Return the rearrangement that a list tells."""
    check_row(row)
    if not is_between(len(row), 1, MOST_PLACES):
        raise BadSize(len(row))
    return Runs(len(row), [(place, 1, goal, 1) for place, goal in enumerate(row)])


def nothing_runs(k):
    """Return the rearrangement of k places that moves nothing."""
    check_far_size(k)
    return Runs(k, [(0, k, 0, 1)])


def exchange_runs(k, x, y):
    """Return the rearrangement of k places that exchanges the things on two places."""
    check_far_size(k)
    low = min(x, y)
    high = max(x, y)
    if low < 0 or high >= k or low == high:
        return nothing_runs(k)
    between = [(low, 1, high, 1), (low + 1, high - low - 1, low + 1, 1), (high, 1, low, 1)]
    return moved_block(k, low, high, between)


def roll_runs(k, x, y, c):
    """Return the rearrangement of k places that moves the block from x to y on by c; None stands for its half."""
    check_far_size(k)
    if x < 0 or y >= k or x >= y:
        return nothing_runs(k)
    length = y - x + 1
    ahead = length // 2 if c is None else c % length
    return moved_block(k, x, y, [(x, ahead, y + 1 - ahead, 1), (x + ahead, length - ahead, x, 1)])


def wider_runs(runs):
    """Return the rearrangement of one place more that leaves the last place as it is."""
    return Runs(runs.size + 1, [*runs.rows, (runs.size, 1, runs.size, 1)])
