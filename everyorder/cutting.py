"""The rings of a rearrangement whose runs go forward, found by cutting off the end of the row again and again."""

from everyorder.straights import ZERO, Reach, for_rest, minus, plus, rests_between, times


class Cutting:
    """A rearrangement in the course of being cut.

    Starts, goals and lengths of the runs are straight numbers. So is the weight of a run: of how many places of the
    whole each of its places tells, those that were cut off from its ring among them. `found` holds the rings that are
    told already, as pairs: how many, and of how many places each.
    """

    def __init__(self, size, runs, low):
        """The runs are tuples (start, length, goal, weight)."""
        self.size = size
        self.reach = Reach(low)
        self.starts = [start for start, _, _, _ in runs]
        self.lengths = [length for _, length, _, _ in runs]
        self.goals = [goal for _, _, goal, _ in runs]
        self.weights = [weight for _, _, _, weight in runs]
        # The runs as indexes, in the order of their starts and in that of their goals.
        self.by_start = in_order(self.starts)
        self.by_goal = in_order(self.goals)
        self.found = []

    def cut(self):
        """Cut until nothing is left, and return 1, or until x must be parted by its rests: return by what number."""
        while self.by_start:
            last = self.by_start[-1]
            image = self.by_goal[-1]
            parts = 1
            if last == image:
                self.end_with(last)
            elif self.reach.is_less(self.lengths[last], self.lengths[image]):
                parts = self.cut_by(image, self.by_start, self.starts)
            else:
                parts = self.cut_by(last, self.by_goal, self.goals)
            if parts > 1:
                return parts
        return 1

    def end_with(self, run):
        """Take away a run whose places are rings of their own."""
        self.found.append((self.lengths[run], self.weights[run]))
        self.shorten(run, self.lengths[run])

    def shorten(self, run, by):
        """Cut off the end of the row, and of a run."""
        self.size = minus(self.size, by)
        self.lengths[run] = minus(self.lengths[run], by)
        if self.reach.sign(self.lengths[run]) == 0:
            self.by_start.remove(run)
            self.by_goal.remove(run)

    def cut_by(self, longer, order, seats):
        """Cut off the end of the row, as far as the longer one of both last runs stays the longer one.

        It stands last in one of the two orders; the runs behind it in the other one, with these seats, are moved.
        Return 1, or the number by whose rests x must be parted first.
        """
        length = self.lengths[longer]
        lap = minus(self.size, plus(seats[longer], length))
        if self.reach.is_less(length, lap):
            self.cut_some(longer, order, seats, lap)
            return 1
        parts = rests_between(length, lap)
        if parts == 1:
            laps = self.reach.quotient(length, lap)
            gone = times(laps, lap)
            weight = times(laps, self.weights[longer])
            for run in order[order.index(longer) + 1:]:
                self.move(run, seats, gone, weight)
            self.shorten(longer, gone)
        return parts

    def cut_some(self, longer, order, seats, lap):
        """Cut off fewer places than all runs behind the longer one have."""
        behind = order.index(longer) + 1
        first = len(order)
        gone = ZERO
        more = self.lengths[order[-1]]
        while not self.reach.is_less(self.lengths[longer], more):
            gone = more
            first = first - 1
            more = plus(gone, self.lengths[order[first - 1]])
        moved = order[first:]
        for run in moved:
            self.move(run, seats, lap, self.weights[longer])
        order[behind:] = moved + order[behind:first]
        self.shorten(longer, gone)

    def move(self, run, seats, by, weight):
        """Move a run back, and let it tell of so many places more."""
        seats[run] = minus(seats[run], by)
        self.weights[run] = plus(self.weights[run], weight)

    def parted(self, many, rest):
        """Return what is left to cut for the x that leave this rest by many, told with the quotient for x."""
        runs = []
        for run in self.by_start:
            told = (self.starts[run], self.lengths[run], self.goals[run], self.weights[run])
            runs.append(tuple([for_rest(number, many, rest) for number in told]))
        low = -((rest - self.reach.low) // many)
        part = Cutting(for_rest(self.size, many, rest), runs, low)
        part.found = [(for_rest(rings, many, rest), for_rest(places, many, rest)) for rings, places in self.found]
        return part


def in_order(seats):
    """Return the indexes of the seats in the order of the seats."""
    return sorted(list(range(len(seats))), key=lambda run: seats[run])
