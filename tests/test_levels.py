"""[8]: levels that are right, their parts and their steps."""

import itertools
import unittest

from everyorder.errors import BadCall, BadSize
from everyorder.programs import Level
from everyorder.words import Word
from helping import NO_INTEGERS, assert_raises
from leveling import (FACTORS, drawing, drawn_level, many_steps_of, partner_of, split_level, step_of,
                      wrong_part_of_level)
from wording import PLACES

ENDINGS = ("", " to the end")
WORDS = ("turn", "exchange 0 -1", "roll 0 half-1 -2", "roll 1 -1 half then turn",
         "turn then exchange half 0 then roll 0 -1 3 then roll half -1 9")
FAR = (1000, 1001, 10 ** 29 + 7, 10 ** 30)


def some_levels():
    """Levels of each kind that are let for all sizes."""
    for ending in ENDINGS:
        for word in WORDS:
            yield f"same {word}{ending}"
        for factor, place in (("1", "0"), ("-1", "-2"), ("2", "half"), ("-9", "half-7"), ("9", "-9"), ("3", "9"),
                              ("-4", "half+9"), ("7", "-1")):
            yield f"along {factor} {place}{ending}"


def some_lists(size):
    """Lists for a size: all 0, all the greatest place, up, down, without a pattern."""
    draw = drawing(size)
    for ending in ENDINGS:
        many = size if ending else size - 1
        for places in ([0] * many, [size - 2] * many, [at % (size - 1) for at in range(many)],
                       [(many - at) % (size - 1) for at in range(many)],
                       [draw.randrange(size - 1) for _ in range(many)]):
            yield f"list {' '.join(str(place) for place in places)}{ending}"


class ExampleTest(unittest.TestCase):
    def test_examples_by_hand(self):
        level = Level("along -1 -2")
        self.assertEqual([level.partner(5, i) for i in range(4)], [3, 2, 1, 0])
        self.assertEqual(Level("along 2 half to the end").partner(6, 5), 3)
        self.assertEqual(Level("list 0 0 1", 4).step(4, 2), [0, 3, 2, 1])
        turn = Level("same turn", 4)
        self.assertIsNone(turn.partner(4, 0))
        self.assertEqual(turn.step(4, 2), [3, 2, 1, 0])
        assert_raises(self, BadCall, "call", 3, turn.step, 4, 3)


class PartsTest(unittest.TestCase):
    def hold_kind(self, level, kind, names):
        self.assertEqual(level.kind, kind)
        for name in {"word", "factor", "place", "entries"} - set(names):
            self.assertIsNone(getattr(level, name))

    def test_same(self):
        draw = drawing(1)
        for ending in ENDINGS:
            for word in [*WORDS, *(split_level(drawn_level(draw))[0] for _ in range(40))]:
                if not isinstance(word, str):
                    if word[0] != "same":
                        continue
                    word = " ".join(word[1:])
                for size in (None, 2, 7, 12):
                    level = Level(f"same {word}{ending}", size)
                    self.assertEqual(level.text, f"same {word}{ending}")
                    self.hold_kind(level, "same", ["word"])
                    self.assertIs(type(level.word), Word)
                    self.assertEqual(level.word, Word(word))
                    self.assertIs(level.to_end, ending != "")

    def test_along(self):
        for factor, place, ending in itertools.product(FACTORS, PLACES, ENDINGS):
            level = Level(f"along {factor} {place}{ending}")
            self.assertEqual(level.text, f"along {factor} {place}{ending}")
            self.hold_kind(level, "along", ["factor", "place"])
            self.assertIs(type(level.factor), int)
            self.assertEqual(level.factor, int(factor))
            self.assertIs(type(level.place), str)
            self.assertEqual(level.place, place)
            self.assertIs(level.to_end, ending != "")
        for size in range(2, 13):
            self.assertEqual(Level("along -3 half+1 to the end", size).factor, -3)

    def test_lists(self):
        for size in range(2, 13):
            for text in some_lists(size):
                level = Level(text, size)
                parts, to_end = split_level(text)
                self.assertEqual(level.text, text)
                self.hold_kind(level, "list", ["entries"])
                self.assertIs(type(level.entries), tuple)
                self.assertEqual(level.entries, tuple(int(part) for part in parts[1:]))
                self.assertEqual({type(entry) for entry in level.entries}, {int})
                self.assertIs(level.to_end, to_end)
                self.assertEqual(len(level.entries), size if to_end else size - 1)

    def test_drawn_levels_are_let(self):
        draw = drawing(2)
        for size in (None, *range(2, 13)):
            for _ in range(60):
                text = drawn_level(draw, size)
                self.assertIsNone(wrong_part_of_level(text.split(" "), size))
                self.assertEqual(Level(text, size).text, text)

    def test_sizes_for_which_no_level_is_meant(self):
        for text in ("same turn", "list 0", "wrong", ""):
            for size in (1, 0, -1, 13, 14, 1000, 10 ** 30, *(value for value in NO_INTEGERS if value is not None)):
                assert_raises(self, BadSize, "size", size, Level, text, size)


class StepsTest(unittest.TestCase):
    def hold(self, text, size, level, calls):
        self.assertEqual(level.many_steps(size), many_steps_of(text, size))
        for call in calls:
            self.assertEqual(level.partner(size, call), partner_of(text, size, call), (text, size, call))
            if size <= 1000:
                step = level.step(size, call)
                self.assertIs(type(step), list)
                self.assertEqual(step, step_of(text, size, call), (text, size, call))

    def test_small_sizes(self):
        for text in some_levels():
            level = Level(text)
            for size in range(2, 41):
                self.hold(text, size, level, range(many_steps_of(text, size)))

    def test_drawn_levels(self):
        draw = drawing(3)
        for _ in range(150):
            text = drawn_level(draw)
            level = Level(text)
            for size in (2, 3, 4, draw.randint(5, 12), draw.randint(13, 40), 1000):
                many = many_steps_of(text, size)
                self.hold(text, size, level, {0, many - 1, draw.randrange(many)})

    def test_lists(self):
        for size in range(2, 13):
            for text in some_lists(size):
                self.hold(text, size, Level(text, size), range(many_steps_of(text, size)))

    def test_far_sizes(self):
        for text in some_levels():
            level = Level(text)
            for size in FAR:
                many = many_steps_of(text, size)
                self.hold(text, size, level, (0, 1, 2, many // 2, many - 2, many - 1))

    def test_a_level_for_a_size_has_all_sizes(self):
        for text in some_levels():
            self.assertEqual(Level(text, 4).many_steps(9), many_steps_of(text, 9))
            self.assertEqual(Level(text, 4).step(9, 7), step_of(text, 9, 7))

    def test_steps_are_new(self):
        for level in (Level("same turn"), Level("along 1 0"), Level("list 0 1", 3)):
            first = level.step(3, 1)
            told = list(first)
            first[0] = "changed"
            self.assertEqual(level.step(3, 1), told)


class RefusedTest(unittest.TestCase):
    def test_sizes_that_are_none(self):
        for text in some_levels():
            level = Level(text)
            for size in (1, 0, -1, -10 ** 30, *NO_INTEGERS):
                assert_raises(self, BadSize, "size", size, level.many_steps, size)
                for call in (0, -1, "no call"):
                    assert_raises(self, BadSize, "size", size, level.partner, size, call)
                    assert_raises(self, BadSize, "size", size, level.step, size, call)

    def test_a_list_has_one_size(self):
        for size in range(2, 13):
            for text in some_lists(size):
                level = Level(text, size)
                for other in (1, 0, size - 1, size + 1, -size, 1000, 10 ** 30, True, None, str(size)):
                    assert_raises(self, BadSize, "size", other, level.many_steps, other)
                    for call in (0, -1, None):
                        assert_raises(self, BadSize, "size", other, level.partner, other, call)
                        assert_raises(self, BadSize, "size", other, level.step, other, call)

    def test_calls_that_are_none(self):
        for text in some_levels():
            level = Level(text)
            for size in (2, 3, 12, 40, 1000):
                many = many_steps_of(text, size)
                for call in (-1, many, many + 1, 10 ** 30, *NO_INTEGERS):
                    assert_raises(self, BadCall, "call", call, level.partner, size, call)
                    assert_raises(self, BadCall, "call", call, level.step, size, call)
        for size in range(2, 13):
            for text in some_lists(size):
                level = Level(text, size)
                for call in (-1, many_steps_of(text, size), True, None):
                    assert_raises(self, BadCall, "call", call, level.partner, size, call)
                    assert_raises(self, BadCall, "call", call, level.step, size, call)

    def test_far_calls(self):
        for text in some_levels():
            level = Level(text)
            for size in FAR:
                for call in (-1, many_steps_of(text, size), True):
                    assert_raises(self, BadCall, "call", call, level.partner, size, call)

    def test_no_step_beyond_a_thousand(self):
        for text in some_levels():
            level = Level(text)
            self.assertEqual(len(level.step(1000, 998)), 1000)
            for size in (1001, 10 ** 30):
                for call in (0, -1, size, None):
                    assert_raises(self, BadSize, "size", size, level.step, size, call)


class EqualityTest(unittest.TestCase):
    def test_levels_of_one_text(self):
        for text in some_levels():
            self.assertTrue(Level(text) == Level(text, 5))
            self.assertFalse(Level(text) != Level(text))
        self.assertTrue(Level("list 0 0", 3) == Level("list 0 0", 3))

    def test_levels_of_other_texts(self):
        # The first two do the same, and so do the last two at size 3.
        texts = ("same exchange 0 -1", "same exchange -1 0", "same exchange 0 -1 to the end", "along 1 0", "along 1 1")
        levels = [*map(Level, texts), Level("list 0 1", 3)]
        for one, other in itertools.permutations(levels, 2):
            self.assertFalse(one == other)
            self.assertTrue(one != other)

    def test_objects_of_other_classes(self):
        for other in ("same turn", Word("turn"), None, 0, ("same turn",)):
            self.assertFalse(Level("same turn") == other)
            self.assertTrue(Level("same turn") != other)


if __name__ == "__main__":
    unittest.main()
