"""Closed programs, told a second time: which are so, and whether far levels are whole, by plain lists."""

from math import gcd

from leveling import FACTORS, Plain, drawn_level, many_steps_of, partner_of, split_level, step_of
from telling import double_of, level_told, levels_told
from wording import AMOUNTS

PLACES = ("0", "1", "2", "3", "5", "8", "9", "-1", "-2", "-3", "-4", "-7", "-9", "half", "half-1", "half+1", "half+2",
          "half-9", "half+9")
# The levels for the rests of programs that are right for every n.
RIGHT_RESTS = (
    ("same turn",),
    ("same roll 0 -1 1 to the end",),
    ("same roll 0 -1 -1 to the end",),
    ("along 1 0", "same exchange 0 -1"),
    ("along -1 -2", "same exchange 0 -1"),
    ("along 1 -2", "same exchange -2 -1"),
    ("along 1 half", "same exchange 1 -1"),
    ("same roll 0 -1 1 to the end", "along 1 0"),
    ("along 1 -3 to the end", "same roll 0 -1 1 to the end"),
    ("same roll 0 -1 -1 to the end", "same roll 0 -1 half"),
    ("same roll 0 -1 -1 to the end", "same roll 1 -1 1 then exchange 0 1"),
    ("same roll 0 -1 2", "same roll 0 -1 1 to the end", "along 1 0 to the end"),
    ("same roll 0 half 1 then roll half -1 1 to the end", "same roll 0 -1 1 to the end",
     "same roll 0 -1 -1 to the end"),
)


def plain_is_open(plain, k):
    """Whether a size is not closed, by the words of [28]."""
    if k < 14 or split_level(plain.level(k))[0][0] == "same":
        return False
    parts, to_end = split_level(plain.level(k - 1))
    if parts[0] != "same":
        return True
    return not to_end and not (parts[1] == "exchange" and len(parts) == 4)


def plain_open_at(plain, low=2):
    return next((k for k in range(max(low, 2), low + 40) if plain_is_open(plain, k)), None)


def undone_list(row):
    back = [None] * len(row)
    for place, goal in enumerate(row):
        back[goal] = place
    return back


class FarLevels:
    """Whether levels from 14 on are whole, by the words of [31], with plain lists."""

    def __init__(self, plain):
        self.plain = plain
        self.told = levels_told(plain, 13)

    def doing(self, k):
        """What level k is taken to do; None if it is an along level that is not whole."""
        parts, to_end = split_level(self.plain.level(k))
        if parts[0] == "same":
            return list(range(k)) if to_end else undone_list(step_of(self.plain.level(k), k, 0))
        if k == 13:
            return self.told[13][1]
        ahead, row = level_told(self.plain.level(k), k, self.doing(k - 1))
        return None if double_of(ahead, k) else row

    def is_whole(self, k):
        if k <= 13:
            return double_of(self.told[k][0], k) is None
        beneath = self.doing(k - 1)
        if beneath is None:
            return False
        if split_level(self.plain.level(k))[0][0] == "same":
            # The same is done from call to call, so the things on the last place are those of its ring.
            step = step_of(self.plain.level(k), k, 0)
            row = [[*beneath, k - 1][place] for place in step]
            place, many = row[k - 1], 1
            while place != k - 1:
                place, many = row[place], many + 1
            return many == k
        return double_of(level_told(self.plain.level(k), k, beneath)[0], k) is None


def last_things(plain, k, beneath):
    """The things on the last place ahead of the calls, and what the level does, with one row that is changed."""
    text = plain.level(k)
    row = list(range(k))
    things = []
    for i in range(k):
        things.append(row[k - 1])
        row[:k - 1] = [row[place] for place in beneath]
        if i < many_steps_of(text, k):
            partner = partner_of(text, k, i)
            if partner is None:
                row = [row[place] for place in step_of(text, k, i)]
            else:
                row[partner], row[k - 1] = row[k - 1], row[partner]
    return things, row


def stopped_levels(plain, stop, high):
    """What the levels above a stop do, to the first one that is not whole, and the triple of that one, or None."""
    doings = {stop: list(range(stop))}
    for k in range(stop + 1, high + 1):
        things, row = last_things(plain, k, doings[k - 1])
        if len(set(things)) < k:
            again = next(d for d in range(k) if things[d] in things[:d])
            return doings, (k, things.index(things[again]), again)
        doings[k] = row
    return doings, None


def far_word(draw, halves, turns=0.3):
    """A word of at most two moves beside a turn, with at most so many halves."""
    while True:
        moves = []
        for _ in range(draw.randint(1, 2)):
            x, y = draw.choice(PLACES), draw.choice(PLACES)
            if draw.random() < 0.5:
                moves.append(f"exchange {x} {y}")
                continue
            if draw.random() < 0.6:
                x, y = draw.choice((("0", "-1"), ("0", "-1"), ("1", "-1"), ("0", "-2"), ("0", "half"), ("half", "-1")))
            moves.append(f"roll {x} {y} {draw.choice(AMOUNTS)}")
        if draw.random() < turns:
            moves.insert(draw.randint(0, len(moves)), "turn")
        text = " then ".join(moves)
        if text.count("half") <= halves:
            return text


def far_rest(draw, kind):
    if kind == "along":
        factor = draw.choice(("1", "-1", *FACTORS, *FACTORS))
        return f"along {factor} {draw.choice(PLACES)}" + (" to the end" if draw.random() < 0.25 else "")
    if draw.random() < 0.2:
        return draw.choice(("same turn", "same roll 0 -1 1", "same roll 0 -1 -1 to the end", "same exchange 0 -1"))
    return f"same {far_word(draw, 1)}" + (" to the end" if draw.random() < 0.4 else "")


def halves_fit(rests):
    """Whether the levels are such as callers of [30] and [32] to [35] hand in."""
    for rest, text in enumerate(rests):
        beneath = rests[rest - 1]
        if split_level(text)[0][0] == "same":
            counts = not (split_level(beneath)[0][0] == "same" and split_level(beneath)[1])
            if text.count("half") + (beneath.count("half") if counts else 0) > 1:
                return False
    return True


def closed_plain(draw, singles=()):
    """A closed program of one to six rests such as callers hand in; single levels for some of the sizes."""
    while True:
        kinds = [draw.choice(("same", "same", "along")) for _ in range(draw.randint(1, 6))]
        rests = [far_rest(draw, kind) for kind in kinds]
        for rest, kind in enumerate(kinds):
            if kind == "along" and kinds[rest - 1] == "same" and draw.random() < 0.6:
                rests[rest - 1] = f"same exchange {draw.choice(PLACES)} {draw.choice(PLACES)}"
        plain = Plain(rests, {size: drawn_level(draw, size) for size in singles if draw.random() < 0.3})
        if halves_fit(rests) and plain_open_at(plain) is None:
            return plain


def right_plains():
    """Programs that are right for every n, with their rests told once or several times."""
    return [Plain(rests * many, {}) for rests in RIGHT_RESTS for many in range(1, 6 // len(rests) + 1)]


def fails_by(number, draw):
    """A program of six rests whose levels are whole, but for those with one rest that have a divisor with the number.

    Returned with this rest: 5 if such levels can fail there, and otherwise 0.
    """
    amounts = [amount for amount in range(-9, 10) if amount]
    first, second = draw.choice([(a, b) for a in amounts for b in amounts if abs(a + b) == number])
    rests = ["same roll 0 -1 1 to the end"] * 6
    rest = 5 if any(gcd(k, number) > 1 for k in range(5, 600, 6)) else 0
    rests[rest] = f"same roll 0 -1 {first} then roll 0 -1 {second} to the end"
    return Plain(rests, {}), rest


def fails_late(number, draw):
    """The same, with single levels, so that no level to 13 fails."""
    plain, rest = fails_by(number, draw)
    plain.singles = {size: "same roll 0 -1 1 to the end" for size in range(2, 13) if size % 6 == rest}
    return plain, rest


def whole_list(draw, k, beneath):
    """A list with which a level is whole on what the level beneath does."""
    goals = list(range(k - 1))
    draw.shuffle(goals)
    power = list(range(k - 1))
    places = []
    for goal in goals:
        power = [power[place] for place in beneath]
        places.append(power.index(goal))
    return "list " + " ".join(map(str, places))


def mended_plain(draw, plain, tries=40):
    """The program with lists in the place of levels to 12 that are not whole; if it can be, level 13 is whole, too."""
    for _ in range(tries):
        told = Plain(plain.rests, plain.singles)
        doing = [0]
        for k in range(2, 13):
            things, row = last_things(told, k, doing)
            if len(set(things)) < k or (k == 12 and draw.random() < 0.5):
                told.singles[k] = whole_list(draw, k, doing)
                row = last_things(told, k, doing)[1]
            doing = row
        if len(set(last_things(told, 13, doing)[0])) == 13:
            return told
    return told
