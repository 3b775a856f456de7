"""The order with a number, the number of an order, and the steps from order to order."""

from math import factorial

from everyorder.numbering import check_number, check_order, number_of, row_at, row_in_call, steps_behind
from everyorder.towers import check_size, tower_of, whole_tower


def order(program, n, i):
    """Return the row with the number i."""
    check_size(n, 1)
    check_number(i, 0, factorial(n) - 1)
    return row_at(tower_of(program, n), n, i)


def number(program, n, row):
    """Return the number of a row."""
    check_size(n, 1)
    check_order(row, n)
    return number_of(whole_tower(program, n), n, row)


def numbers(program, n, row):
    """Return all numbers with which a row is told, ascending; level n need not be whole."""
    check_size(n, 1)
    check_order(row, n)
    whole_tower(program, n - 1)
    if n == 1:
        return (0,)
    tower = tower_of(program, n)
    rows = factorial(n - 1)
    return tuple([call * rows + number_of(tower, n - 1, row_in_call(tower, n, call, row))
                  for call, thing in enumerate(tower.lasts[n]) if thing == row[n - 1]])


def steps(program, n, y):
    """Return the steps between the rows with the numbers y - 1 and y, as pairs of a size and a call."""
    check_size(n, 1)
    check_number(y, 1, factorial(n))
    return tuple(steps_behind(program, n, y - 1))


def do_step(row, ruling, k, call):
    """Do a step of size k with the row itself."""
    place = ruling.partner(k, call)
    if place is None:
        row[:k] = [row[old] for old in ruling.word.at(k)]
    else:
        row[place], row[k - 1] = row[k - 1], row[place]


def told_from(program, n, i):
    """Go through the rows from number i on."""
    row = order(program, n, i)
    for at in range(i, factorial(n)):
        yield list(row)
        for k, call in steps_behind(program, n, at):
            do_step(row, program.level(k), k, call)
