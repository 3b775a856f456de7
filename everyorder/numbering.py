"""The rows that a program tells, by their numbers.

A number is taken apart into the numbers of the calls in which its row is told, one call of each level.
"""

from everyorder.checks import first_wrong, is_between
from everyorder.errors import BadNumber, BadRow
from everyorder.maps import back_from


def check_number(number, low, high):
    """Raise BadNumber if the value is no integer from low to high."""
    if not is_between(number, low, high):
        raise BadNumber(number)


def check_order(row, n):
    """Raise BadRow if the row is no order of n things."""
    wrong = first_wrong(row, n)
    if wrong is not None:
        raise BadRow(wrong)
    if len(row) < n:
        raise BadRow(len(row))


def calls_of_number(n, number):
    """Return by sizes, from 2 on, the calls in which the row with a number is told."""
    calls = [0, 0]
    for k in range(2, n + 1):
        number, call = divmod(number, k)
        calls.append(call)
    return calls


def row_at(tower, n, number):
    """Return the row with a number."""
    calls = calls_of_number(n, number)
    row = list(range(n))
    for k in range(n, 1, -1):
        tower.stages[k].lead(row, calls[k])
    return row


def row_in_call(tower, k, call, row):
    """Return the row of k things that is told in a call of level k, as the level beneath tells it."""
    back = back_from(tower.ahead(k, call))
    return [back[thing] for thing in row[:k - 1]]


def number_of(tower, n, row):
    """Return the number of a row; all levels are whole."""
    number = 0
    for k in range(n, 1, -1):
        call = tower.lasts[k].index(row[k - 1])
        number = number * k + call
        row = row_in_call(tower, k, call, row)
    return number


def steps_behind(program, n, number):
    """Return the steps that are done behind the row with a number, each as the pair of its size and its call."""
    told = []
    for k in range(2, n + 1):
        number, call = divmod(number, k)
        if call < program.level(k).many_steps(k):
            told.append((k, call))
        if call < k - 1:
            return told
    return told
