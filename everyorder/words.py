"""Place words, moves, and words, which tell rearrangements for all sizes."""

from everyorder.checks import is_between, is_from
from everyorder.errors import BadSize, BadWord
from everyorder.maps import MOST_PLACES

MOST_MOVES = 4
# Tuples, as a text also contains the empty text and those of several signs.
FIGURES = ("1", "2", "3", "4", "5", "6", "7", "8", "9")
PLACE_FRONTS = ("", "-", "half-", "half+")
AMOUNT_FRONTS = ("", "-")
# The parts that follow the first part of a move.
SHAPES = {"exchange": ("place", "place"), "roll": ("place", "place", "amount"), "turn": ()}
# An empty part is never right, so it can stand for the end of a text.
NO_PART = ""


def is_figure_behind(fronts, text):
    """Tell whether the text is one of the fronts and a figure from 1 to 9."""
    return text[:-1] in fronts and text[-1:] in FIGURES


def is_place_word(text):
    """Tell whether the text is a place word."""
    return text in ("0", "half") or is_figure_behind(PLACE_FRONTS, text)


def is_amount(text):
    """Tell whether the text is an amount."""
    return text == "half" or is_figure_behind(AMOUNT_FRONTS, text)


def place_value(word, size):
    """Return the value of a place word at a size, whether the place is in it or not."""
    if not is_place_word(word):
        raise BadWord(0)
    if not is_from(size, 1):
        raise BadSize(size)
    return place_of(word, size)


def place_of(word, size):
    """Return the value of a text that is known to be a place word."""
    if word == "half":
        return size // 2
    if word.startswith("half"):
        return size // 2 + int(word.removeprefix("half"))
    if word.startswith("-"):
        return size + int(word)
    return int(word)


def amount_of(text, length):
    """Return by how many places a block of this length moves on."""
    if text == "half":
        return length // 2
    return int(text)


def is_part(text, kind):
    """Tell whether the text is a part of this kind."""
    if kind == "place":
        return is_place_word(text)
    return is_amount(text)


def read_move(parts, start, may_turn):
    """Return the move whose parts begin at start, as a tuple."""
    head = parts[start]
    if head not in SHAPES or (head == "turn" and not may_turn):
        raise BadWord(start)
    shape = SHAPES[head]
    for index, kind in enumerate(shape, start=start + 1):
        if not is_part(parts[index], kind):
            raise BadWord(index)
    return tuple(parts[start:start + 1 + len(shape)])


def read_moves(parts, start):
    """Return the tuple of the moves that stand from start on, and the index of the part behind them.

    The last one of the parts is NO_PART. What stands behind the moves is left to the caller.
    """
    moves = []
    end = start
    while True:
        move = read_move(parts, end, ("turn",) not in moves)
        moves.append(move)
        end = end + len(move)
        if len(moves) == MOST_MOVES or parts[end] != "then":
            return tuple(moves), end
        end = end + 1


def exchanged(old, x, y):
    """Return the row in which the things on two places are exchanged."""
    new = list(old)
    new[x] = old[y]
    new[y] = old[x]
    return new


def rolled(old, x, y, amount):
    """Return the row in which the block from x to y has moved on."""
    if x > y:
        return list(old)
    block = old[x:y + 1]
    cut = len(block) - amount_of(amount, len(block)) % len(block)
    return old[:x] + block[cut:] + block[:cut] + old[y + 1:]


def moved(old, move):
    """Return the row that a move makes of a row."""
    if move[0] == "turn":
        return old[::-1]
    x = place_of(move[1], len(old))
    y = place_of(move[2], len(old))
    if not is_between(x, 0, len(old) - 1) or not is_between(y, 0, len(old) - 1):
        return list(old)
    if move[0] == "exchange":
        return exchanged(old, x, y)
    return rolled(old, x, y, move[3])


class Word:
    """A text of moves that are done from left to right."""

    def __init__(self, text):
        parts = text.split(" ")
        moves, end = read_moves([*parts, NO_PART], 0)
        if end < len(parts):
            raise BadWord(end)
        self.text = text
        self.moves = moves
        self.has_turn = ("turn",) in moves

    def __eq__(self, other):
        return isinstance(other, Word) and self.text == other.text

    def at(self, k):
        """Return the rearrangement that the word makes of a row of k things."""
        if not is_between(k, 1, MOST_PLACES):
            raise BadSize(k)
        row = list(range(k))
        for move in self.moves:
            row = moved(row, move)
        return row
