"""Sizes that belong together: from a start on those with some rests by a period, and some early ones."""

from everyorder.checks import is_from


def prime_factors(number):
    """Return the prime factors of an integer from 1 on, ascending, each as often as it divides."""
    told = []
    factor = 2
    while factor * factor <= number:
        while number % factor == 0:
            told.append(factor)
            number = number // factor
        factor = factor + 1
    if number > 1:
        told.append(number)
    return told


def shortest_turn(marks):
    """Return the least beginning of a list that makes the list if it is told again and again."""
    turn = list(marks)
    for factor in prime_factors(len(marks)):
        part = len(turn) // factor
        if turn[part:] + turn[:part] == turn:
            turn = turn[:part]
    return turn


class Sizes:
    """The sizes from the start on whose rests by the period are told, and early ones, which are less than the start."""

    def __init__(self, start, period, rests, early):
        self.start = start
        self.period = period
        self.rests = tuple(rests)
        self.early = tuple(early)
        self._marks = [False] * period
        for rest in rests:
            self._marks[rest] = True
        # The same rests by the least period of all: two objects may tell the same sizes by different periods.
        self._turn = shortest_turn(self._marks)
        self.least = self.next_from(0)

    def __eq__(self, other):
        if not isinstance(other, Sizes):
            return False
        return self.start == other.start and self.early == other.early and self._turn == other._turn

    def __contains__(self, x):
        if is_from(x, self.start):
            return self._marks[x % self.period]
        return is_from(x, 0) and x in self.early

    def next_from(self, low):
        """Return the least of the sizes that is not less than low; None if there is none."""
        for size in self.early:
            if size >= low:
                return size
        if not self.rests:
            return None
        low = max(low, self.start)
        behind = low % self.period
        for rest in self.rests:
            if rest >= behind:
                return low - behind + rest
        return low - behind + self.period + self.rests[0]
