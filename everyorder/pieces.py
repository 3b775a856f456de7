"""What words do at all sizes at once, from some size on, in pieces.

A size is a straight number: the sizes that leave one rest by a modulus. A piece is a tuple (start, length, goal, way)
like a run, but of straight numbers. The pieces of a rearrangement ascend; some may have no places.
"""

from everyorder.straights import ONE, ZERO, minus, plus, times
from everyorder.words import place_of


def place_at(text, size):
    """Return the value of a place word at a straight size."""
    base = place_of(text, size[1])
    return place_of(text, size[1] + size[0]) - base, base


def stay(size):
    """Return the pieces of what moves nothing."""
    return [(ZERO, size, ZERO, 1)]


def block_moved(size, x, y, pieces):
    """Return the pieces of what moves the block from x to y as these pieces tell."""
    behind = plus(y, ONE)
    return [(ZERO, x, ZERO, 1), *pieces, (behind, minus(size, behind), behind, 1)]


def exchanged_at(size, x, y):
    """Return the pieces of the exchange of two places, the lower one first."""
    between = plus(x, ONE)
    return block_moved(size, x, y, [(x, ONE, y, 1), (between, minus(y, between), between, 1), (y, ONE, x, 1)])


def rolled_at(size, x, y, amount, reach):
    """Return the pieces of a roll of the block from x to y."""
    length = minus(plus(y, ONE), x)
    if amount == "half":
        ahead = (length[0] // 2, length[1] // 2)
    else:
        told = (0, int(amount))
        ahead = minus(told, times(reach.quotient(told, length), length))
    left = minus(length, ahead)
    return block_moved(size, x, y, [(x, ahead, plus(x, left), 1), (plus(x, ahead), left, x, 1)])


def moved_at(move, size, reach):
    """Return the pieces of a move."""
    if move[0] == "turn":
        return [(ZERO, size, minus(size, ONE), -1)]
    x = place_at(move[1], size)
    y = place_at(move[2], size)
    for place in (x, y):
        if reach.is_less(place, ZERO) or not reach.is_less(place, size):
            return stay(size)
    if reach.is_less(x, y):
        if move[0] == "exchange":
            return exchanged_at(size, x, y)
        return rolled_at(size, x, y, move[3], reach)
    if move[0] == "exchange" and reach.is_less(y, x):
        return exchanged_at(size, y, x)
    return stay(size)


def piece_led_on(piece, others, reach):
    """Return the pieces of a piece, if the goals that it had lead on as the others tell."""
    start, length, goal, way = piece
    low = goal if way == 1 else minus(plus(goal, ONE), length)
    high = plus(low, length)
    # What the goals meet, in the order in which they meet it.
    met = others if way == 1 else others[::-1]
    told = []
    for other, many, first, other_way in met:
        left = other if reach.is_less(low, other) else low
        right = plus(other, many)
        right = right if reach.is_less(right, high) else high
        if reach.is_less(left, right):
            at = left if way == 1 else minus(right, ONE)
            begin = minus(left, low) if way == 1 else minus(high, right)
            reached = plus(first, times((0, other_way), minus(at, other)))
            told.append((plus(start, begin), minus(right, left), reached, way * other_way))
    return told


def joined_pieces(first, second, reach):
    """Return the pieces of what does first what the first ones tell, and then what the second ones tell."""
    rows = []
    for piece in second:
        for start, length, goal, way in piece_led_on(piece, first, reach):
            if rows and way == rows[-1][3] and goal == plus(rows[-1][2], times((0, way), rows[-1][1])):
                rows[-1] = (rows[-1][0], plus(rows[-1][1], length), rows[-1][2], way)
            else:
                rows.append((start, length, goal, way))
    return rows


def undone_pieces(pieces):
    """Return the pieces of what takes a rearrangement back."""
    told = []
    for start, length, goal, way in pieces:
        if way == 1:
            told.append((goal, length, start, 1))
        else:
            behind = plus(start, length)
            told.append((minus(plus(goal, ONE), length), length, minus(behind, ONE), -1))
    return sorted(told)


def pieces_of(word, size, reach):
    """Return the pieces of what a word does."""
    pieces = stay(size)
    for move in word.moves:
        pieces = joined_pieces(pieces, moved_at(move, size, reach), reach)
    return pieces


def wider_pieces(pieces, size):
    """Return the pieces with one place more, the last one, which stays; the size is that of before."""
    return [*pieces, (size, ONE, size, 1)]


def is_nothing(pieces, reach):
    """Tell whether pieces, none of which has no places, move nothing."""
    for start, length, goal, way in pieces:
        if reach.sign(minus(goal, start)) != 0 or (way == -1 and reach.is_less(ONE, length)):
            return False
    return True


def forward_pieces(pieces):
    """Return tuples (start, length, goal), with what goes backward, which must not grow, taken place by place."""
    told = []
    for start, length, goal, way in pieces:
        if way == 1:
            told.append((start, length, goal))
        else:
            told.extend([(plus(start, (0, index)), ONE, minus(goal, (0, index))) for index in range(length[1])])
    return told
