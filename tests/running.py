"""Runs and rings, told a second time: from plain lists, and place by place for far sizes."""

from leveling import drawn_word
from wording import value_of

MOST = 10 ** 30
FAR = (100, 101, 998, 10 ** 6 + 1, 10 ** 15, 10 ** 30 - 1, 10 ** 30)


def rows_of_list(row):
    """The runs of a plain list in their one form."""
    told = []
    start = 0
    while start < len(row):
        best, way = 1, 1
        for step in (1, -1):
            length = 1
            while start + length < len(row) and row[start + length] == row[start] + step * length:
                length += 1
            if length > best:
                best, way = length, step
        told.append((start, best, row[start], way))
        start += best
    return tuple(told)


def list_of(runs):
    return [runs.at(place) for place in range(runs.size)]


def drawn_blocks(draw, size):
    """A list of blocks in another order, some of them turned."""
    cuts = sorted(draw.sample(range(1, size), draw.randint(0, min(size - 1, 8)))) if size > 1 else []
    blocks = [list(range(low, high)) for low, high in zip([0, *cuts], [*cuts, size])]
    draw.shuffle(blocks)
    return [place for block in blocks for place in (block[::-1] if draw.random() < 0.4 else block)]


def moves_of(text):
    return [tuple(move.split(" ")) for move in text.split(" then ")]


def drawn_words(draw, many, most=4):
    return [drawn_word(draw, most) for _ in range(many)]


def place_ahead(move, size, place):
    """The place from which a move brings a thing to a place."""
    if move[0] == "turn":
        return size - 1 - place
    x, y = value_of(move[1], size), value_of(move[2], size)
    if not (0 <= x < size and 0 <= y < size):
        return place
    if move[0] == "exchange":
        return {x: y, y: x}.get(place, place)
    if not x <= place <= y:
        return place
    m = y - x + 1
    c = m // 2 if move[3] == "half" else int(move[3])
    return x + (place - x - c) % m


def source_of(moves, size, place):
    """The place from which all moves together bring a thing to a place."""
    for move in reversed(moves):
        place = place_ahead(move, size, place)
    return place


def some_places(draw, size):
    """Places near the ends, the middle, the quarters, and others."""
    near = [at * size // 4 + by for at in range(5) for by in range(-12, 13)]
    near.extend(draw.randrange(size) for _ in range(10))
    return sorted({place for place in near if 0 <= place < size})


def rings_by_walking(row):
    """The rings of a plain list as rings_of tells them."""
    left = set(range(len(row)))
    many = {}
    while left:
        place = start = left.pop()
        length = 1
        while row[place] != start:
            place = row[place]
            left.discard(place)
            length += 1
        many[length] = many.get(length, 0) + 1
    return [(many[length], length) for length in sorted(many)]


def ring_of(row, place):
    """The places of the ring with a place."""
    told = [place]
    while row[told[-1]] != place:
        told.append(row[told[-1]])
    return told


def hold_one_form(test, runs):
    """Hold that the runs are in their one form, and of plain integers."""
    test.assertIs(type(runs.rows), tuple)
    start = 0
    for run in runs.rows:
        test.assertIs(type(run), tuple)
        test.assertEqual({type(part) for part in run}, {int})
        test.assertEqual(run[0], start)
        test.assertGreater(run[1], 0)
        test.assertIn(run[3], (1, -1) if run[1] > 1 else (1,))
        start += run[1]
    test.assertEqual(start, runs.size)
    for one, other in zip(runs.rows, runs.rows[1:]):
        for way in (1, -1):
            fits = (one[1] == 1 or one[3] == way) and other[2] == one[2] + way * one[1]
            # Not even the first place of the next run could be taken in.
            test.assertFalse(fits, (one, other))
    goals = sorted((goal if way == 1 else goal - length + 1, length) for _, length, goal, way in runs.rows)
    start = 0
    for goal, length in goals:
        test.assertEqual(goal, start)
        start += length
