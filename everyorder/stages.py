"""One level of a program on what the level beneath does, as lists.

Both kinds of stages tell: `lasts`, the things on the last place ahead of the calls; `is_whole`; `doing`, what all calls
and all steps do. A row may be longer than the level has places: what stands behind these stays.
"""

from everyorder.maps import back_from, in_turn, ring_from


def turn_rings(row, rings, many):
    """Do with the row itself what a rearrangement with these rings does if it is done many times."""
    for ring in rings:
        by = many % len(ring)
        if by > 0:
            things = [row[place] for place in ring]
            for place, thing in zip(ring, things[by:] + things[:by]):
                row[place] = thing


def long_rings(row):
    """Return the rings of more than one place."""
    rings = []
    is_told = [False] * len(row)
    for start, goal in enumerate(row):
        if goal != start and not is_told[start]:
            ring = ring_from(row, start)
            for place in ring:
                is_told[place] = True
            rings.append(ring)
    return rings


class Stage:
    """A level of one size; the classes below it tell of the two kinds of levels."""

    def __init__(self, size):
        self.size = size

    def ahead(self, call):
        """Return what has been done ahead of a call."""
        row = list(range(self.size))
        self.lead(row, call)
        return row


class WordStage(Stage):
    """A level that does the same behind each call: so the same is done from each call to the next one."""

    def __init__(self, size, beneath, step, to_end):
        between = in_turn(beneath, step)
        ring = ring_from(between, size - 1)
        Stage.__init__(self, size)
        self.is_whole = len(ring) == size
        self.lasts = (ring * (size // len(ring) + 1))[:size]
        if self.is_whole:
            self.rings = [ring]
            self.doing = list(range(size)) if to_end else back_from(step)
        else:
            self.rings = long_rings(between)
            done = self.ahead(size if to_end else size - 1)
            self.doing = done if to_end else in_turn(done, beneath)

    def lead(self, row, call):
        """Do with the row itself what has been done ahead of a call: the calls before it, each with its step."""
        turn_rings(row, self.rings, call)


class ExchangeStage(Stage):
    """A level that exchanges the last place with others, the partners.

    What is done ahead of a call are the exchanges of the last place with the `sources` of the steps before it, and
    behind them what the level beneath does, as often as it has been called. The source of a step is the place at the
    beginning of the level from which the thing comes that the step brings to the end.
    """

    def __init__(self, size, beneath, partners):
        Stage.__init__(self, size)
        self.rings = long_rings(beneath)
        self.sources = sources_of(self.rings, size, partners)
        last = size - 1
        # The step behind the last call brings nothing ahead of a call.
        brought = self.sources[:last]
        self.is_whole = len(set(brought)) == last
        self.doing = list(range(size))
        self.lasts = (last, *brought) if self.is_whole else self.things_brought()
        for source in self.sources:
            self.doing[source], self.doing[last] = self.doing[last], self.doing[source]
        turn_rings(self.doing, self.rings, size)

    def things_brought(self):
        """Return the things on the last place ahead of the calls, as a tuple."""
        last = self.size - 1
        row = list(range(self.size))
        things = [last]
        for source in self.sources[:last]:
            row[source], row[last] = row[last], row[source]
            things.append(row[last])
        return tuple(things)

    def lead(self, row, call):
        """Do with the row itself what has been done ahead of a call: the calls before it, each with its step."""
        last = self.size - 1
        for source in self.sources[:call]:
            row[source], row[last] = row[last], row[source]
        turn_rings(row, self.rings, call)


def sources_of(rings, size, partners):
    """Return the sources of the steps, with these rings of what the level beneath does."""
    ring_of = [None] * size
    index_of = [0] * size
    for ring in rings:
        for index, place in enumerate(ring):
            ring_of[place] = ring
            index_of[place] = index
    sources = list(partners)
    for call, place in enumerate(partners):
        ring = ring_of[place]
        if ring is not None:
            sources[call] = ring[(index_of[place] + call + 1) % len(ring)]
    return sources


def stage_of(size, ruling, beneath):
    """Return the stage of a level of this size on what the level beneath does."""
    wider = [*beneath, size - 1]
    if ruling.kind == "same":
        return WordStage(size, wider, ruling.word.at(size), ruling.to_end)
    return ExchangeStage(size, wider, ruling.partners(size, ruling.many_steps(size)))
