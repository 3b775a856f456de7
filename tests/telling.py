"""What programs tell, a second time: by plain calls that move one row, and level by level with plain lists."""

from math import factorial

from leveling import many_steps_of, step_of

HEAP = "period 2 / rest 0 along 1 0 / rest 1 same exchange 0 -1"
WRONG = "period 2 / rest 0 along 1 0 / rest 1 same exchange 1 -1"
ROLL = "period 1 / rest 0 same roll 0 -1 1 to the end"
TURN = "period 1 / rest 0 same turn"
HALVES = "period 1 / rest 0 same roll 0 -1 half to the end"
# Whole at all sizes: of one kind, of several kinds, to the end, with levels of their own.
WHOLE = (
    HEAP,
    TURN,
    ROLL,
    "period 1 / rest 0 same roll 0 -1 -1 to the end",
    "period 2 / rest 0 along -1 -2 / rest 1 same exchange 0 -1",
    "period 2 / rest 0 same roll 0 -1 1 to the end / rest 1 along 1 0",
    "period 1 / rest 0 same turn / level 4 same turn then roll 0 -2 -3 then exchange 2 half",
    "period 1 / rest 0 same roll 0 -1 1 to the end / level 7 list 3 0 1 5 2 4",
    "period 2 / rest 0 along 1 0 / rest 1 same exchange 0 -1 / level 3 along -4 half+7 to the end",
)
# Not whole at 3.
STUCK = "period 1 / rest 0 same exchange 0 1"


def text_of(told):
    """The text of a program whose lines are joined by ` / `."""
    return told.replace(" / ", "\n")


def tell(plain, n):
    """All rows that a program tells of n things, and the row as it is left, by plain calls that move one row."""
    row = list(range(n))
    rows = []

    def call(k):
        if k == 1:
            rows.append(tuple(row))
            return
        for i in range(k):
            call(k - 1)
            if i < many_steps_of(plain.level(k), k):
                row[:k] = [row[place] for place in steps[k][i]]

    steps = {k: [step_of(plain.level(k), k, i) for i in range(many_steps_of(plain.level(k), k))]
             for k in range(2, n + 1)}
    call(n)
    return rows, row


def first_double(rows):
    """The pair (i, j) of [11] from all rows: the first row that has been told before; None if there is none."""
    numbers = {}
    for j, row in enumerate(rows):
        if row in numbers:
            return numbers[row], j
        numbers[row] = j
    return None


def level_told(text, k, beneath):
    """What a level has done ahead of each call, and what it does as a whole, from what the level beneath does."""
    row = list(range(k))
    ahead = []
    for i in range(k):
        ahead.append(list(row))
        row[:k - 1] = [row[place] for place in beneath]
        if i < many_steps_of(text, k):
            row = [row[place] for place in step_of(text, k, i)]
    return ahead, row


def levels_told(plain, n):
    """For each size from 2 to n what level_told tells of it."""
    told = {1: ([[0]], [0])}
    for k in range(2, n + 1):
        told[k] = level_told(plain.level(k), k, told[k - 1][1])
    return told


def double_of(ahead, k):
    """The pair (first, again) of [11] from what a level has done ahead of its calls; None if it is whole."""
    things = [row[k - 1] for row in ahead]
    for again in range(k):
        if things[again] in things[:again]:
            return things.index(things[again]), again
    return None


def drawn_numbers(draw, n, many):
    """Numbers of rows of n things: the first, the last, and drawn ones."""
    last = factorial(n) - 1
    return sorted({0, last, *(draw.randint(0, last) for _ in range(many))})


# Programs that are whole up to a size, and not there: the size may be 14 to 18, which are the least sizes that have
# their rest by 6 beyond 12 and need no line for 13.
def first_wrong_at(size, level):
    """A program, by its lines, whose least level that is not whole is this one, if the level is not whole there."""
    rests = ["along 1 0" if rest % 2 == 0 else "same exchange 0 -1" for rest in range(6)]
    singles = {other: rests[size % 6] for other in range(2, 13) if other % 6 == size % 6}
    rests[size % 6] = level
    lines = ["period 6", *(f"rest {rest} {text}" for rest, text in enumerate(rests))]
    lines.extend(f"level {other} {singles[other]}" for other in sorted(singles))
    return " / ".join(lines)
