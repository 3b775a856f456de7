"""How often a thing stands on a place among the rows, and where; no row is gone through.

In each call of a level the calls of the level beneath are alike, but for the thing on the last place. So only the one
in which the row with a number is told must be looked into; there the things have other names, their places ahead of it.
"""

from math import factorial

from everyorder.checks import is_between
from everyorder.errors import BadPlace, BadThing
from everyorder.numbering import check_number
from everyorder.towers import check_size, whole_tower


def check_thing(thing, n):
    """Raise BadThing if the value is none of n things."""
    if not is_between(thing, 0, n - 1):
        raise BadThing(thing)


def check_place_and_thing(n, place, thing):
    """Raise the first error that size, place and thing call for."""
    check_size(n, 1)
    if not is_between(place, 0, n - 1):
        raise BadPlace(place)
    check_thing(thing, n)


def many_at(tower, n, place, thing, i):
    """Return how many of the first i rows have this thing on this place."""
    many = 0
    for k in range(n, 1, -1):
        call, i = divmod(i, factorial(k - 1))
        last = tower.lasts[k][:call].count(thing)
        if place == k - 1:
            many = many + last * factorial(k - 1)
        else:
            many = many + (call - last) * factorial(k - 2)
        if i == 0:
            return many
        is_last = tower.lasts[k][call] == thing
        if is_last or place == k - 1:
            return many + i if is_last and place == k - 1 else many
        thing = tower.ahead(k, call).index(thing)
    return many + i


def row_with(tower, n, place, thing, nth):
    """Return the number of the row that is the nth one, from 0, with this thing on this place."""
    number = 0
    for k in range(n, 1, -1):
        last = tower.lasts[k].index(thing)
        if place == k - 1:
            return number + last * factorial(k - 1) + nth
        call, nth = divmod(nth, factorial(k - 2))
        if call >= last:
            call = call + 1
        number = number + call * factorial(k - 1)
        thing = tower.ahead(k, call).index(thing)
    return number


def many_left(tower, n, one, other, i):
    """Return how many of the first i rows have one thing left of the other one."""
    many = 0
    for k in range(n, 1, -1):
        rows = factorial(k - 1)
        call, i = divmod(i, rows)
        lasts = tower.lasts[k]
        left = lasts[:call].count(other)
        right = lasts[:call].count(one)
        # In a call with both things ahead of the last place, each way round comes as often.
        many = many + left * rows + (call - left - right) * rows // 2
        if i == 0 or lasts[call] == one:
            return many
        if lasts[call] == other:
            return many + i
        row = tower.ahead(k, call)
        one = row.index(one)
        other = row.index(other)
    return many


def count_at(program, n, place, thing, i):
    """Return how many of the rows with the numbers 0 to i - 1 have this thing on this place."""
    check_place_and_thing(n, place, thing)
    check_number(i, 0, factorial(n))
    return many_at(whole_tower(program, n), n, place, thing, i)


def nth_at(program, n, place, thing, k):
    """Return the number of the row that is the one with the number k among those with this thing on this place."""
    check_place_and_thing(n, place, thing)
    check_number(k, 0, factorial(n - 1) - 1)
    return row_with(whole_tower(program, n), n, place, thing, k)


def next_at(program, n, place, thing, i):
    """Return the least number from i on of a row with this thing on this place; None if there is none."""
    check_place_and_thing(n, place, thing)
    check_number(i, 0, factorial(n) - 1)
    tower = whole_tower(program, n)
    many = many_at(tower, n, place, thing, i)
    if many == factorial(n - 1):
        return None
    return row_with(tower, n, place, thing, many)


def count_left(program, n, one, other, i):
    """Return how many of the rows with the numbers 0 to i - 1 have the one thing left of the other one."""
    check_size(n, 1)
    check_thing(one, n)
    check_thing(other, n)
    if one == other:
        raise BadThing(other)
    check_number(i, 0, factorial(n))
    return many_left(whole_tower(program, n), n, one, other, i)
