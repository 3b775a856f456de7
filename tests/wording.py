"""What words are, told a second time, in another way than the package tells it."""

import itertools

FIGURES = [str(figure) for figure in range(1, 10)]


def place_table():
    """Each place word with three numbers a, b, c: its value at k is a * (k // 2) + b * k + c."""
    table = {"0": (0, 0, 0), "half": (1, 0, 0)}
    for figure in range(1, 10):
        table[f"{figure}"] = (0, 0, figure)
        table[f"-{figure}"] = (0, 1, -figure)
        table[f"half+{figure}"] = (1, 0, figure)
        table[f"half-{figure}"] = (1, 0, -figure)
    return table


PLACES = place_table()
AMOUNTS = ["half", *FIGURES, *("-" + figure for figure in FIGURES)]


def value_of(place, size):
    half, whole, number = PLACES[place]
    return half * (size // 2) + whole * size + number


def row_by_move(old, move):
    """The row that a move makes of a row, by the words of [6]."""
    size = len(old)
    new = list(old)
    if move[0] == "turn":
        for j in range(size):
            new[j] = old[size - 1 - j]
        return new
    x, y = value_of(move[1], size), value_of(move[2], size)
    if x not in range(size) or y not in range(size) or x == y:
        return new
    if move[0] == "exchange":
        new[x], new[y] = old[y], old[x]
    elif x < y:
        m = y - x + 1
        c = m // 2 if move[3] == "half" else int(move[3])
        for i in range(m):
            new[x + (i + c) % m] = old[x + i]
    return new


def row_by_moves(moves, size):
    """The rearrangement that moves make: what becomes of the row of the places themselves."""
    row = list(range(size))
    for move in moves:
        row = row_by_move(row, move)
    return row


# Each part is told by one sign: x exchange, r roll, u turn, t then, b a place word that is an amount,
# p another place word, ? what is none of these. Each amount is a place word, too.
def sign_of(part):
    plain = {"exchange": "x", "roll": "r", "turn": "u", "then": "t"}
    if part in plain:
        return plain[part]
    if part in AMOUNTS:
        return "b"
    if part in PLACES:
        return "p"
    return "?"


def all_signs():
    """The signs of all words there are."""
    moves = ["u"]
    moves.extend("x" + "".join(places) for places in itertools.product("bp", repeat=2))
    moves.extend("r" + "".join(places) + "b" for places in itertools.product("bp", repeat=2))
    told = set()
    for many in range(1, 5):
        for word in itertools.product(moves, repeat=many):
            if word.count("u") <= 1:
                told.add("t".join(word))
    return told


WORDS = all_signs()
BEGINNINGS = {word[:end] for word in WORDS for end in range(len(word) + 1)}


def wrong_part(parts):
    """The index that [7] asks for these parts of a text; None if they are a word."""
    signs = "".join(sign_of(part) for part in parts)
    for index in range(len(signs)):
        if signs[:index + 1] not in BEGINNINGS:
            return index
    return None if signs in WORDS else len(signs)
