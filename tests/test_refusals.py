"""[11] to [18]: what is refused, and which of two errors is raised: by a table of all arguments."""

import itertools
import unittest
from math import factorial

from everyorder import orders, tells, times
from everyorder.errors import BadCall, BadNumber, BadPlace, BadRow, BadSize, BadThing, NotWhole
from everyorder.programs import Program
from helping import NO_INTEGERS, assert_raises
from telling import HEAP, STUCK, text_of


class Range:
    """An argument that is an integer from low to high, which may depend on n; otherwise this error is raised."""

    def __init__(self, kind, attribute, low, high):
        self.kind, self.attribute, self.low, self.high = kind, attribute, low, high

    def right(self, n):
        return [self.low, self.high(n)]

    def wrong(self, n):
        values = [self.low - 1, self.high(n) + 1, -10 ** 200, 10 ** 200, *NO_INTEGERS]
        return [(value, self.kind, self.attribute, value) for value in values]


class Row:
    """An argument that is an order of n things."""

    def right(self, n):
        return [list(range(n)), tuple(reversed(range(n)))]

    def wrong(self, n):
        told = [(list(range(n - 1)), n - 1), (list(range(n + 1)), n), ([*range(n), 0], n), ([0, 0], 1), ([n], 0),
                ([-1], 0), ((), 0), (tuple(range(n - 1)), n - 1)]
        told.extend(([0, value, 0], 1) for value in NO_INTEGERS)
        return [(row, BadRow, "index", index) for row, index in told]


def size_from(low):
    return Range(BadSize, "size", low, lambda n: 100)


PLACE = Range(BadPlace, "place", 0, lambda n: n - 1)
THING = Range(BadThing, "thing", 0, lambda n: n - 1)


def number_to(low, high):
    return Range(BadNumber, "number", low, high)


# For each function its arguments behind the program, and up to which size less than n all levels must be whole.
TABLE = (
    (tells.double, [size_from(1)], None),
    (tells.twice, [size_from(1)], None),
    (tells.does, [size_from(1)], None),
    (tells.lasts, [size_from(2)], None),
    (tells.before, [size_from(2), Range(BadCall, "call", 0, lambda n: n - 1)], None),
    (orders.order, [size_from(1), number_to(0, lambda n: factorial(n) - 1)], None),
    (orders.number, [size_from(1), Row()], 0),
    (orders.numbers, [size_from(1), Row()], 1),
    (orders.steps, [size_from(1), number_to(1, factorial)], None),
    (lambda *values: next(orders.told_from(*values)), [size_from(1), number_to(0, lambda n: factorial(n) - 1)], None),
    (times.count_at, [size_from(1), PLACE, THING, number_to(0, factorial)], 0),
    (times.nth_at, [size_from(1), PLACE, THING, number_to(0, lambda n: factorial(n - 1) - 1)], 0),
    (times.next_at, [size_from(1), PLACE, THING, number_to(0, lambda n: factorial(n) - 1)], 0),
    (times.count_left, [size_from(1), THING, THING, number_to(0, factorial)], 0),
)
SIZES = (2, 3, 4, 7, 100)


def right_calls(call, arguments, n):
    """All values just within the bounds, but for the size."""
    for values in itertools.product(*(argument.right(n) for argument in arguments[1:])):
        if call is not times.count_left or values[0] != values[1]:
            yield [n, *values]


class RefusalTest(unittest.TestCase):
    def hold(self, told, call, *values):
        _, kind, attribute, value = told
        assert_raises(self, kind, attribute, value, call, *values)

    def test_values_just_within_the_bounds(self):
        heap, stuck = Program(text_of(HEAP)), Program(text_of(STUCK))
        for call, arguments, less in TABLE:
            for n in SIZES:
                for values in right_calls(call, arguments, n):
                    call(heap, *values)
                    if less is not None and n - less >= 3:
                        assert_raises(self, NotWhole, "size", 3, call, stuck, *values)
                    else:
                        call(stuck, *values)

    def test_one_wrong_value(self):
        for program in (Program(text_of(HEAP)), Program(text_of(STUCK))):
            for call, arguments, _ in TABLE:
                for n in (2, 5, 100):
                    values = next(right_calls(call, arguments, n))
                    for at, argument in enumerate(arguments):
                        for told in argument.wrong(n):
                            self.hold(told, call, program, *values[:at], told[0], *values[at + 1:])

    def test_two_wrong_values_at_once(self):
        for program in (Program(text_of(HEAP)), Program(text_of(STUCK))):
            for call, arguments, _ in TABLE:
                for n in (3, 100):
                    values = next(right_calls(call, arguments, n))
                    for first, second in itertools.combinations(range(len(arguments)), 2):
                        for told in arguments[first].wrong(n)[:8]:
                            for other in arguments[second].wrong(n)[:8]:
                                handed = list(values)
                                handed[first], handed[second] = told[0], other[0]
                                self.hold(told, call, program, *handed)

    def test_all_wrong_values_at_once(self):
        program = Program(text_of(STUCK))
        for call, arguments, _ in TABLE:
            for n in (3, 100):
                for told in arguments[0].wrong(n):
                    self.hold(told, call, program, told[0], *(argument.wrong(n)[0][0] for argument in arguments[1:]))


if __name__ == "__main__":
    unittest.main()
