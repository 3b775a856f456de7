"""Straight numbers: pairs (a, b) that stand for a * x + b, for all x from some x on at once.

A plain number is a straight number that does not grow: (0, b).
"""

from math import gcd

ZERO = (0, 0)
ONE = (0, 1)


def plus(one, other):
    """Return the sum of two straight numbers."""
    return one[0] + other[0], one[1] + other[1]


def minus(one, other):
    """Return what is left of one straight number without the other one."""
    return one[0] - other[0], one[1] - other[1]


def times(one, other):
    """Return the product of two straight numbers, of which one at least does not grow."""
    return one[0] * other[1] + one[1] * other[0], one[1] * other[1]


def for_rest(number, many, rest):
    """Return the straight number with many * x + rest in the place of x."""
    return number[0] * many, number[0] * rest + number[1]


def value_at(number, x):
    """Return the plain number for which a straight number stands at x."""
    return number[0] * x + number[1]


def rests_between(number, unit):
    """Return by how many rests of x it is told how often the unit goes into the number: 1 if x need not be known."""
    if unit[0] > 0:
        return 1
    return unit[1] // gcd(number[0], unit[1])


class Reach:
    """What is told of straight numbers holds for all x from `low` on; each question may raise it."""

    def __init__(self, low):
        self.low = max(low, 0)

    def sign(self, number):
        """Return 1, 0 or -1, as the number is greater than 0, is 0, or is less."""
        grows, base = number
        if grows > 0:
            self.low = max(self.low, -base // grows + 1)
            return 1
        if grows < 0:
            self.low = max(self.low, base // -grows + 1)
            return -1
        if base == 0:
            return 0
        return 1 if base > 0 else -1

    def is_less(self, one, other):
        """Tell whether one number is less than the other one."""
        return self.sign(minus(other, one)) > 0

    def quotient(self, number, unit):
        """Return how often the unit, which is greater than 0, goes into the number.

        If the unit does not grow, x has been parted by its rests, as rests_between tells.
        """
        if unit[0] == 0:
            return number[0] // unit[1], number[1] // unit[1]
        often = number[0] // unit[0]
        left = minus(number, times((0, often), unit))
        if left[0] == 0 and left[1] < 0:
            often = often - 1
            left = plus(left, unit)
        # Asked only so that the answer holds from low on.
        self.sign(left)
        self.is_less(left, unit)
        return 0, often
