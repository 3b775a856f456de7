"""What levels and programs are, told a second time: levels by all shapes that they can have, steps by plain lists."""

import itertools
import random

from wording import AMOUNTS, FIGURES, PLACES, row_by_moves, value_of

FACTORS = [*FIGURES, *("-" + figure for figure in FIGURES)]
ENDING = ("to", "the", "end")
MOVE_SHAPES = {
    "exchange": (("exchange",), PLACES, PLACES),
    "roll": (("roll",), PLACES, PLACES, AMOUNTS),
    "turn": (("turn",),),
}


def word_shapes():
    """All shapes of words: for each part the texts that it may be."""
    for many in range(1, 5):
        for kinds in itertools.product(MOVE_SHAPES, repeat=many):
            if kinds.count("turn") <= 1:
                shape = []
                for at, kind in enumerate(kinds):
                    shape.extend([("then",)] if at else [])
                    shape.extend(MOVE_SHAPES[kind])
                yield tuple(shape)


def level_shapes(size):
    """All shapes of the levels that are let for a size, or for None."""
    ending = tuple((part,) for part in ENDING)
    for body in [(("same",), *shape) for shape in word_shapes()] + [(("along",), FACTORS, PLACES)]:
        yield body
        yield body + ending
    if size is not None:
        places = [str(place) for place in range(size - 1)]
        yield (("list",), *[places] * (size - 1))
        yield (("list",), *[places] * size) + ending


SHAPES = {size: list(level_shapes(size)) for size in (None, *range(2, 13))}


def wrong_part_of_level(parts, size):
    """The index that [8] asks for these parts; None if they are a level that is let for the size."""
    longest = 0
    for shape in SHAPES[size]:
        fits = 0
        while fits < min(len(parts), len(shape)) and parts[fits] in shape[fits]:
            fits += 1
        if fits == len(parts) == len(shape):
            return None
        longest = max(longest, fits)
    return longest


def split_level(text):
    """The parts of a level without its ending, and whether it had one."""
    parts = text.split(" ")
    if tuple(parts[-3:]) == ENDING:
        return parts[:-3], True
    return parts, False


def many_steps_of(text, size):
    return size if split_level(text)[1] else size - 1


def partner_of(text, size, call):
    parts = split_level(text)[0]
    if parts[0] == "same":
        return None
    if parts[0] == "list":
        return int(parts[1 + call])
    return (int(parts[1]) * call + value_of(parts[2], size)) % (size - 1)


def step_of(text, size, call):
    """The step as a plain list."""
    place = partner_of(text, size, call)
    row = list(range(size))
    if place is None:
        moves = [move.split(" ") for move in " ".join(split_level(text)[0][1:]).split(" then ")]
        return row_by_moves(moves, size)
    row[place], row[-1] = row[-1], row[place]
    return row


def drawn_move(draw, kind):
    if kind == "turn":
        return "turn"
    x, y = draw.choice(sorted(PLACES)), draw.choice(sorted(PLACES))
    if draw.random() < 0.7:
        # Most places are in the small sizes, and most blocks are blocks.
        x = draw.choice(("0", "1", "2", "half", "half-1"))
        y = draw.choice(("-1", "-2", "half", "half+1", "1", "3"))
    if kind == "exchange":
        return f"exchange {x} {y}"
    return f"roll {x} {y} {draw.choice(AMOUNTS)}"


def drawn_word(draw, most=4):
    kinds = [draw.choice(("exchange", "roll")) for _ in range(draw.randint(1, most))]
    if draw.random() < 0.3:
        kinds[draw.randrange(len(kinds))] = "turn"
    return " then ".join(drawn_move(draw, kind) for kind in kinds)


def drawn_level(draw, size=None):
    """A level that is let for a size, or for None."""
    ending = " to the end" if draw.random() < 0.3 else ""
    kind = draw.choice(("same", "along", "list") if size else ("same", "along"))
    if kind == "same":
        return f"same {drawn_word(draw)}{ending}"
    if kind == "along":
        return f"along {draw.choice(FACTORS)} {draw.choice(sorted(PLACES))}{ending}"
    places = [str(draw.randrange(size - 1)) for _ in range(size if ending else size - 1)]
    return f"list {' '.join(places)}{ending}"


class Plain:
    """A program by its parts: the levels of the rests, and those of single sizes."""

    def __init__(self, rests, singles):
        self.rests = list(rests)
        self.singles = dict(singles)

    @property
    def lines(self):
        lines = [f"period {len(self.rests)}"]
        lines.extend(f"rest {rest} {text}" for rest, text in enumerate(self.rests))
        lines.extend(f"level {size} {self.singles[size]}" for size in sorted(self.singles))
        return lines

    @property
    def text(self):
        return "\n".join(self.lines)

    def level(self, size):
        return self.singles.get(size, self.rests[size % len(self.rests)])


def drawn_plain(draw, most=12):
    """A program without a plan, with single levels for sizes to most."""
    rests = [drawn_level(draw) for _ in range(draw.randint(1, 6))]
    sizes = draw.sample(range(2, most + 1), draw.randint(0, most - 1))
    return Plain(rests, {size: drawn_level(draw, size) for size in sizes})


def plain_of(text):
    """The parts of a program whose text is known to be right; lines may be joined by ` / `."""
    lines = text.replace(" / ", "\n").split("\n")
    period = int(lines[0].split(" ")[1])
    rests = [line.split(" ", 2)[2] for line in lines[1:period + 1]]
    singles = {int(line.split(" ", 2)[1]): line.split(" ", 2)[2] for line in lines[period + 1:]}
    return Plain(rests, singles)


def drawing(seed):
    """What draws the same for equal seeds."""
    return random.Random(seed)
