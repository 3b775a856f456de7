"""[37], [38]: at which order two programs part, and whether they tell the same for every n."""

import itertools
import unittest
from math import factorial

from everyorder.alike import alike, parting
from everyorder.errors import BadSize
from everyorder.programs import Program
from closed import closed_plain, far_rest, far_word, right_plains
from helping import NO_INTEGERS, assert_raises
from leveling import Plain, drawing, drawn_level, drawn_plain, partner_of, plain_of, split_level
from telling import HALVES, HEAP, STUCK, TURN, WHOLE, WRONG, levels_told, tell, text_of

NOTHING = ("exchange 0 0", "exchange half half", "roll -1 -1 3", "roll 3 1 2", "exchange -9 -9")


def first_unlike(one, other, high):
    """The least level to a size with an unlike M_d and the number of [37], by plain lists; None if there is none."""
    told, beside = levels_told(one, high), levels_told(other, high)
    for k in range(2, high + 1):
        for d in range(k):
            if told[k][0][d] != beside[k][0][d]:
                return k, d * factorial(k - 1)
    return None


def other_words(draw, text):
    """A level that does the same."""
    parts, to_end = split_level(text)
    end = " to the end" if to_end else ""
    if parts[0] == "list":
        return text
    if parts[0] == "along":
        # The place k - 1 is the place 0, as k - 1 is taken away.
        place = {"-1": "0", "0": "-1"}.get(parts[2], parts[2]) if draw.random() < 0.6 else parts[2]
        return f"along {parts[1]} {place}{end}"
    moves = []
    for move in " ".join(parts[1:]).split(" then "):
        told = move.split(" ")
        moves.append(" ".join([told[0], told[2], told[1]]) if told[0] == "exchange" and draw.random() < 0.5 else move)
    if len(moves) == 2 and moves[0] == "turn" and moves[1] in ("exchange 0 -1", "exchange -1 0", "exchange 1 -2"):
        moves.reverse()
    if len(moves) < 4 and draw.random() < 0.4:
        moves.insert(draw.randint(0, len(moves)), draw.choice(NOTHING))
    return f"same {' then '.join(moves)}{end}"


def same_program(draw, plain):
    """The program in other words: other spellings, more rests, single lines that repeat a rest."""
    many = draw.randint(1, 6 // len(plain.rests))
    rests = [other_words(draw, text) for text in plain.rests * many]
    singles = {size: other_words(draw, text) for size, text in plain.singles.items()}
    for size in range(2, 13):
        if size not in singles and draw.random() < 0.2:
            singles[size] = text = other_words(draw, plain.level(size))
            if text.startswith("along") and draw.random() < 0.5:
                to_end = split_level(text)[1]
                places = [str(partner_of(text, size, i)) for i in range(size if to_end else size - 1)]
                singles[size] = f"list {' '.join(places)}{' to the end' if to_end else ''}"
    return Plain(rests, singles)


def changed_program(draw, plain):
    """The program with one level exchanged, or to the end, or no more so."""
    rests, singles = list(plain.rests), dict(plain.singles)
    kind = draw.randrange(3)
    rest = draw.randrange(len(rests))
    if kind == 0:
        rests[rest] = far_rest(draw, draw.choice(("same", "along")))
    elif kind == 1:
        text = rests[rest]
        rests[rest] = text.removesuffix(" to the end") if split_level(text)[1] else f"{text} to the end"
    else:
        size = draw.randint(2, 12)
        singles[size] = drawn_level(draw, size)
    return Plain(rests, singles)


def made_good(draw):
    """Two programs that are alike: levels to the end in one of them alone, made good by the next level."""
    ending = draw.choice(("roll 0 -1 1", "roll 1 -1 3", "exchange 0 -1", "roll 0 -1 -5", "exchange 2 -4"))
    further = {"-1": "-2", "-4": "-5"}
    parts = ending.split(" ")
    taken = " ".join([*parts[:2], further[parts[2]], *parts[3:]])
    word = far_word(draw, 0, 0)
    one = [f"same {ending} to the end", f"same {word} to the end"]
    other = [f"same {ending}", f"same {taken} then {word} to the end"]
    return (Plain(one, {}), Plain(other, {})) if draw.random() < 0.5 else (Plain(one[::-1], {}), Plain(other[::-1], {}))


def some_pairs(seed, many):
    draw = drawing(seed)
    for at in range(many):
        kind = at % 5
        if kind == 0:
            one = drawn_plain(draw) if draw.random() < 0.5 else closed_plain(draw, range(2, 13))
            yield one, same_program(draw, one)
        elif kind == 1:
            one = closed_plain(draw)
            yield one, changed_program(draw, same_program(draw, one))
        elif kind == 2:
            yield made_good(draw)
        elif kind == 3:
            one = draw.choice(right_plains())
            yield one, same_program(draw, changed_program(draw, one))
        else:
            yield closed_plain(draw), drawn_plain(draw)


class ExampleTest(unittest.TestCase):
    def test_examples_by_hand(self):
        heap = Program(text_of(HEAP))
        mirror = Program(text_of("period 2 / rest 0 along -1 -2 / rest 1 same exchange 0 -1"))
        self.assertEqual(alike(heap, mirror), (4, 6))
        self.assertEqual(alike(mirror, heap), (4, 6))
        self.assertEqual([parting(heap, mirror, n) for n in (1, 2, 3, 4, 5, 100)], [None, None, None, 6, 6, 6])
        longer = ("period 4 / rest 0 along 1 0 / rest 1 same exchange 0 -1 / rest 2 along 1 0 / "
                  "rest 3 same exchange 0 -1")
        self.assertIsNone(alike(heap, Program(text_of(longer))))
        self.assertIsNone(parting(heap, Program(text_of(longer)), 100))
        one = Program("period 1\nrest 0 same exchange -1 0 then turn")
        self.assertIsNone(alike(one, Program("period 1\nrest 0 same turn then exchange 0 -1")))


class PartingTest(unittest.TestCase):
    def test_by_plain_calls(self):
        seen = set()
        for one, other in some_pairs(301, 150):
            first, second = Program(one.text), Program(other.text)
            for n in range(1, 6):
                rows, beside = tell(one, n)[0], tell(other, n)[0]
                least = next((i for i in range(len(rows)) if rows[i] != beside[i]), None)
                self.assertEqual(parting(first, second, n), least)
                self.assertEqual(parting(second, first, n), least)
                seen.add(least)
            self.assertEqual((first, second), (Program(one.text), Program(other.text)))
        self.assertGreater(len(seen), 5)

    def test_many_things(self):
        for one, other in some_pairs(302, 60):
            first, second = Program(one.text), Program(other.text)
            found = first_unlike(one, other, 24)
            for n in (13, 24):
                least = None if found is None or found[0] > n else found[1]
                self.assertEqual(parting(first, second, n), least)
            if found is not None:
                self.assertEqual([parting(first, second, n) for n in (found[0] - 1, found[0], 60, 100)],
                                 [None, found[1], found[1], found[1]])

    def test_refusals(self):
        heap, other = Program(text_of(HEAP)), Program(text_of(STUCK))
        for value in (0, -1, 101, 10 ** 30, *NO_INTEGERS):
            assert_raises(self, BadSize, "size", value, parting, heap, other, value)
            assert_raises(self, BadSize, "size", value, parting, heap, heap, value)
        self.assertIsNone(parting(heap, heap, 100))
        self.assertIsNone(parting(heap, other, 1))


class AlikeTest(unittest.TestCase):
    def test_pairs(self):
        seen = {}
        for one, other in some_pairs(303, 350):
            first, second = Program(one.text), Program(other.text)
            told = alike(first, second)
            self.assertEqual(alike(second, first), told)
            high = 24 if told is None else min(told[0], 40)
            found = first_unlike(one, other, high)
            self.assertEqual(found, None if told is None or told[0] > high else told, (one.text, other.text))
            if told is not None:
                self.assertIs(type(told), tuple)
                if told[0] <= 100:
                    self.assertEqual(parting(first, second, told[0]), told[1])
                    self.assertIsNone(parting(first, second, told[0] - 1))
                self.assertEqual(told[1] % factorial(told[0] - 1), 0)
                self.assertIn(told[1] // factorial(told[0] - 1), range(1, told[0]))
            else:
                self.assertIsNone(parting(first, second, 100))
            seen[told and told[0]] = seen.get(told and told[0], 0) + 1
        self.assertGreater(len(seen), 10)
        self.assertGreater(seen[None], 100)

    def test_levels_to_the_end_that_are_made_good(self):
        draw = drawing(304)
        for _ in range(40):
            one, other = made_good(draw)
            self.assertIsNone(first_unlike(one, other, 15))
            self.assertIsNone(alike(Program(one.text), Program(other.text)))

    def test_levels_to_the_end_that_are_not_made_good(self):
        for text in (HEAP, TURN, HALVES):
            plain = plain_of(text)
            for rest in range(len(plain.rests)):
                rests = list(plain.rests)
                ended = split_level(rests[rest])[1]
                rests[rest] = rests[rest].removesuffix(" to the end") if ended else rests[rest] + " to the end"
                other = Plain(rests, {})
                self.assertEqual(alike(Program(plain.text), Program(other.text)), first_unlike(plain, other, 12))
                self.assertIsNotNone(first_unlike(plain, other, 12))

    def test_turns_ahead_and_behind(self):
        """A turn behind the exchange of two places that a turn exchanges is the same as a turn ahead of it."""
        for x, y in (("0", "-1"), ("1", "-2"), ("2", "-3"), ("-1", "0"), ("8", "-9"), ("-9", "8")):
            one = Program(f"period 1\nrest 0 same exchange {x} {y} then turn")
            other = Program(f"period 1\nrest 0 same turn then exchange {x} {y}")
            self.assertIsNone(alike(one, other))
        one = Program("period 1\nrest 0 same exchange 1 -1 then turn")
        self.assertIsNotNone(alike(one, Program("period 1\nrest 0 same turn then exchange 1 -1")))
        self.assertIsNone(alike(one, Program("period 1\nrest 0 same turn then exchange -2 0")))

    def test_several_words_for_one(self):
        pairs = (("roll 0 -1 1 then roll 0 -1 1", "roll 0 -1 2"), ("roll 0 -1 9", "roll 0 -1 4 then roll 0 -1 5"),
                 ("exchange half 0 then exchange 0 half", "exchange 3 3"), ("roll 0 half half", "roll 0 half half"),
                 ("roll 0 -1 -1 then turn", "turn then roll 0 -1 1"), ("roll 3 4 1", "exchange 3 4"),
                 ("roll 0 1 half", "exchange 1 0"), ("roll 0 -1 half then roll 0 -1 half", "roll 0 -1 -1"))
        for word, other in pairs:
            for end in ("", " to the end"):
                one, two = Program(f"period 1\nrest 0 same {word}{end}"), Program(f"period 1\nrest 0 same {other}{end}")
                told = first_unlike(plain_of(one.text), plain_of(two.text), 20)
                self.assertEqual(alike(one, two), told, (word, other))

    def test_unlike_places_that_are_far(self):
        """Places of the beginning, the middle and the end that are the same at small sizes only."""
        draw = drawing(305)
        late = set()
        for _ in range(60):
            x, y = draw.sample(("7", "8", "9", "half", "half+1", "half-8", "half-9", "-7", "-8", "-9", "half+9"), 2)
            other = draw.choice(("half", "half-9", "9", "-9", "half+8"))
            one = Plain([f"same exchange 0 -1 then exchange {x} {y}"] * 2, {})
            two = Plain(["same exchange 0 -1", f"same exchange 0 -1 then exchange {other} {y}"], {})
            told = alike(Program(one.text), Program(two.text))
            self.assertEqual(told, first_unlike(one, two, 40))
            late.add(told and told[0])
        self.assertGreater(max(size for size in late if size), 15)

    def test_of_three_the_least_comes_twice(self):
        draw = drawing(306)
        for _ in range(60):
            one = closed_plain(draw, (2, 3, 4, 5, 6))
            plains = [one, changed_program(draw, one), changed_program(draw, changed_program(draw, one))]
            programs = [Program(plain.text) for plain in plains]
            told = [alike(*pair) for pair in itertools.combinations(programs, 2)]
            numbers = sorted(pair[1] if pair is not None else float("inf") for pair in told)
            self.assertEqual(numbers[0], numbers[1])

    def test_one_program_twice(self):
        for text in (*WHOLE, WRONG, STUCK, HALVES):
            self.assertIsNone(alike(Program(text_of(text)), Program(text_of(text))))


if __name__ == "__main__":
    unittest.main()
