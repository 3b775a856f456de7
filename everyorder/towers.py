"""What the levels of a program do, one on the other, worked out without going through the rows."""

from everyorder.checks import is_between
from everyorder.errors import BadSize, NotWhole
from everyorder.maps import led, in_turn, seats_of

# The greatest size whose levels are worked out as lists.
MOST_LEVELS = 100


def check_size(size, low):
    """Raise BadSize if the value is no size from low on whose levels are worked out as lists."""
    if not is_between(size, low, MOST_LEVELS):
        raise BadSize(size)


class Stage:
    """A level of one size, standing on what the level beneath does.

    In a level that does a word, the same is done from each call to the next one: `seats` are the seats of this. In a
    level that exchanges, the exchanges of the last place with the `sources` of the steps stand ahead of all calls, and
    behind them what the level beneath does, as often as it has been called: `seats` are the seats of this. The source
    of a step is the place at the beginning of the level from which the thing comes that the step brings to the end.
    """

    def __init__(self, size, ruling, beneath):
        self.size = size
        self.beneath = [*beneath, size - 1]
        self.step_count = ruling.many_steps(size)
        self.sources = []
        if ruling.kind == "same":
            self.seats = seats_of(in_turn(self.beneath, ruling.word.at(size)))
        else:
            self.seats = seats_of(self.beneath)
            self.sources = [led(self.seats, ruling.partner(size, call), call + 1) for call in range(self.step_count)]

    def ahead(self, call):
        """Return what has been done ahead of a call: the calls before it, each with its step."""
        row = list(range(self.size))
        for source in self.sources[:call]:
            row[source], row[-1] = row[-1], row[source]
        return [row[led(self.seats, place, call)] for place in range(self.size)]

    def whole_doing(self):
        """Return what all calls and all steps do."""
        if self.step_count == self.size:
            return self.ahead(self.size)
        return in_turn(self.ahead(self.size - 1), self.beneath)

    def last_things(self):
        """Return the things on the last place ahead of the calls, as a tuple."""
        last = self.size - 1
        if not self.sources:
            return tuple([led(self.seats, last, call) for call in range(self.size)])
        row = list(range(self.size))
        things = [last]
        for source in self.sources[:last]:
            row[source], row[-1] = row[-1], row[source]
            things.append(row[-1])
        return tuple(things)


class Tower:
    """The levels of a program up to a size; if it is stopped at a size, the level of this size does nothing.

    What they do stands in `doings`, the things on their last places ahead of their calls in `lasts`, both by size.
    """

    def __init__(self, program, size, stop=1):
        self.stop = stop
        self.stages = [None] * (stop + 1)
        self.doings = [list(range(k)) for k in range(stop + 1)]
        self.lasts = [()] * (stop + 1)
        for k in range(stop + 1, size + 1):
            stage = Stage(k, program.level(k), self.doings[k - 1])
            self.stages.append(stage)
            self.doings.append(stage.whole_doing())
            self.lasts.append(stage.last_things())

    def ahead(self, k, call):
        """Return what level k, from 2 on, has done ahead of a call."""
        return self.stages[k].ahead(call)

    def least_not_whole(self, high):
        """Return the least size above the stop, up to high, whose level is not whole; None if there is none."""
        for k in range(self.stop + 1, high + 1):
            if len(set(self.lasts[k])) < k:
                return k
        return None

    def check_whole(self, high):
        """Raise NotWhole if not all levels up to high are whole."""
        k = self.least_not_whole(high)
        if k is not None:
            raise NotWhole(k)
