"""[27]: numbers that are told for all sizes from some size on, on which the tables of rings stand."""

import itertools
import unittest

from everyorder.straights import Reach, for_rest, minus, plus, rests_between, times, value_at

NUMBERS = list(itertools.product((-3, -1, 0, 1, 2, 4, 7), (-40, -7, -1, 0, 1, 6, 33)))
UNITS = [number for number in NUMBERS if number[0] > 0 or number[0] == 0 < number[1]]


class StraightTest(unittest.TestCase):
    def test_sums_and_products(self):
        for one, other in itertools.product(NUMBERS, repeat=2):
            for x in (0, 1, 5, 10 ** 20):
                self.assertEqual(value_at(plus(one, other), x), value_at(one, x) + value_at(other, x))
                self.assertEqual(value_at(minus(one, other), x), value_at(one, x) - value_at(other, x))
                if one[0] == 0 or other[0] == 0:
                    self.assertEqual(value_at(times(one, other), x), value_at(one, x) * value_at(other, x))

    def test_rests(self):
        for number in NUMBERS:
            for many, rest in ((1, 0), (2, 1), (7, 0), (7, 6)):
                for x in range(5):
                    self.assertEqual(value_at(for_rest(number, many, rest), x), value_at(number, many * x + rest))

    def test_signs_hold_from_low_on(self):
        for number in NUMBERS:
            for low in (-3, 0, 2, 50):
                reach = Reach(low)
                sign = reach.sign(number)
                self.assertGreaterEqual(reach.low, max(low, 0))
                for x in range(reach.low, reach.low + 60):
                    value = value_at(number, x)
                    self.assertEqual(sign, (value > 0) - (value < 0))
                if reach.low > max(low, 0):
                    # It is raised no further than it must be.
                    before = value_at(number, reach.low - 1)
                    self.assertNotEqual(sign, (before > 0) - (before < 0))

    def test_what_is_less(self):
        for one, other in itertools.product(NUMBERS, repeat=2):
            reach = Reach(0)
            is_less = reach.is_less(one, other)
            for x in (*range(reach.low, reach.low + 10), 10 ** 20):
                self.assertIs(is_less, value_at(one, x) < value_at(other, x))

    def test_quotients(self):
        for number, unit in itertools.product(NUMBERS, UNITS):
            many = rests_between(number, unit)
            self.assertGreater(many, 0)
            if unit[0] > 0:
                self.assertEqual(many, 1)
            for rest in range(many):
                told, by = for_rest(number, many, rest), for_rest(unit, many, rest)
                self.assertEqual(rests_between(told, by), 1)
                reach = Reach(0)
                reach.sign(by)
                if number[0] < 0 < unit[0]:
                    # How often goes into what is less than 0 is asked of plain numbers alone.
                    continue
                often = reach.quotient(told, by)
                for x in (*range(reach.low, reach.low + 10), 10 ** 20):
                    self.assertEqual(value_at(often, x), value_at(told, x) // value_at(by, x), (told, by, x))


if __name__ == "__main__":
    unittest.main()
