"""What the levels of a program do, one on the other, worked out without going through the rows."""

from everyorder.checks import is_between
from everyorder.errors import BadSize, NotWhole
from everyorder.stages import stage_of

# The greatest size whose levels are worked out as lists.
MOST_LEVELS = 100


def check_size(size, low):
    """Raise BadSize if the value is no size from low on whose levels are worked out as lists."""
    if not is_between(size, low, MOST_LEVELS):
        raise BadSize(size)


class Tower:
    """The levels of a program up to a size; if it is stopped at a size, the level of this size does nothing.

    What they do stands in `doings`, the things on their last places ahead of their calls in `lasts`, both by size.
    """

    def __init__(self, stop=1):
        self.stages = [None] * (stop + 1)
        self.doings = [[]] * stop + [list(range(stop))]
        self.lasts = [()] * (stop + 1)
        # The least size above the stop whose level is not whole, as far as the tower goes.
        self.wrong = None

    def grow(self, program, size):
        """Go on with the levels of the program up to a size; what is there already stays."""
        while len(self.stages) <= size:
            self.add_level(program)

    def add_level(self, program):
        """Go on by a level."""
        k = len(self.stages)
        stage = stage_of(k, program.level(k), self.doings[k - 1])
        self.stages.append(stage)
        self.doings.append(stage.doing)
        self.lasts.append(stage.lasts)
        if self.wrong is None and not stage.is_whole:
            self.wrong = k

    def ahead(self, k, call):
        """Return what level k, from 2 on, has done ahead of a call."""
        return self.stages[k].ahead(call)

    def least_not_whole(self, program, high):
        """Return the least size above the stop, up to high, whose level is not whole; None if there is none."""
        while self.wrong is None and len(self.stages) <= high:
            self.add_level(program)
        return None if self.wrong is None or self.wrong > high else self.wrong


def tower_of(program, size):
    """Return the tower of a program, which goes to this size at least."""
    program.tower.grow(program, size)
    return program.tower


def whole_tower(program, size):
    """Return the tower of a program, which goes to this size at least; raise NotWhole if not all levels are whole."""
    k = program.tower.least_not_whole(program, size)
    if k is not None:
        raise NotWhole(k)
    return program.tower
