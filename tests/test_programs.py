"""[9]: programs that are right, their levels and steps, and programs that are made from others."""

import itertools
import unittest

from everyorder.errors import BadCall, BadNumber, BadSize, BadWord, NoLevel
from everyorder.programs import Level, Program
from helping import NO_INTEGERS, assert_raises
from leveling import Plain, drawing, drawn_level, drawn_plain, many_steps_of, plain_of, step_of, wrong_part_of_level

EXAMPLE = "period 2\nrest 0 along 1 0\nrest 1 same exchange 0 -1\nlevel 4 list 2 0 1"
FAR = (41, 1000, 10 ** 29 + 5, 10 ** 30, 10 ** 40 + 3)
WRONG_LEVELS = ("", "same", "turn", "same turn ", "along 0 0", "list 0\n", "same turn\nlevel 12 same turn", "list",
                "to")


def some_plains():
    """Programs with each period and up to eleven single levels."""
    draw = drawing(11)
    for period in range(1, 7):
        for many in (0, 1, 2, 5, 11):
            rests = [drawn_level(draw) for _ in range(period)]
            sizes = draw.sample(range(2, 13), many)
            yield Plain(rests, {size: drawn_level(draw, size) for size in sizes})


class ExampleTest(unittest.TestCase):
    def test_examples_by_hand(self):
        program = Program(EXAMPLE)
        self.assertEqual(program.sizes, (4,))
        self.assertEqual(program.step(4, 1), [3, 1, 2, 0])
        self.assertEqual(program.step(6, 1), [0, 5, 2, 3, 4, 1])
        self.assertEqual(program.step(5, 3), [4, 1, 2, 3, 0])
        without = program.without_level(4)
        self.assertEqual(without.text, EXAMPLE.rpartition("\n")[0])
        self.assertEqual(without.sizes, ())
        assert_raises(self, NoLevel, "size", 5, program.without_level, 5)
        self.assertEqual(program.with_level(3, "list 0 1").text.split("\n")[3:], ["level 3 list 0 1",
                                                                               "level 4 list 2 0 1"])
        self.assertEqual(program.with_rest(0, "same turn").text, EXAMPLE.replace("along 1 0", "same turn"))
        assert_raises(self, BadNumber, "number", 2, program.with_rest, 2, "same turn")


class PartsTest(unittest.TestCase):
    def test_attributes(self):
        for plain in some_plains():
            program = Program(plain.text)
            self.assertEqual(program.text, plain.text)
            self.assertIs(type(program.period), int)
            self.assertEqual(program.period, len(plain.rests))
            self.assertIs(type(program.rests), tuple)
            self.assertEqual({type(level) for level in program.rests}, {Level})
            self.assertEqual([level.text for level in program.rests], plain.rests)
            self.assertIs(type(program.sizes), tuple)
            self.assertEqual(program.sizes, tuple(sorted(plain.singles)))

    def test_levels_of_all_sizes(self):
        for plain in some_plains():
            program = Program(plain.text)
            for size in (*range(2, 41), *FAR):
                level = program.level(size)
                self.assertIs(type(level), Level)
                self.assertEqual(level.text, plain.level(size), size)
                self.assertEqual(level.many_steps(size), many_steps_of(plain.level(size), size))

    def test_steps(self):
        for plain in some_plains():
            program = Program(plain.text)
            for size in range(2, 41):
                many = many_steps_of(plain.level(size), size)
                for call in {0, 1 % many, many // 2, many - 1}:
                    self.assertEqual(program.step(size, call), step_of(plain.level(size), size, call))

    def test_refused(self):
        for plain in some_plains():
            program = Program(plain.text)
            for size in (1, 0, -1, -10 ** 30, *NO_INTEGERS):
                assert_raises(self, BadSize, "size", size, program.level, size)
                assert_raises(self, BadSize, "size", size, program.step, size, 0)
                assert_raises(self, BadSize, "size", size, program.step, size, None)
            for size in (2, 3, 4, 7, 12, 40, 1000):
                for call in (-1, many_steps_of(plain.level(size), size), 10 ** 30, *NO_INTEGERS):
                    assert_raises(self, BadCall, "call", call, program.step, size, call)
            for size in (1001, 10 ** 30):
                for call in (0, -1, None):
                    assert_raises(self, BadSize, "size", size, program.step, size, call)


class MadeTest(unittest.TestCase):
    def hold(self, program, plain):
        """Hold that it is the program with these parts."""
        self.assertIs(type(program), Program)
        self.assertEqual(program.text, plain.text)
        self.assertEqual(program, Program(plain.text))
        self.assertEqual(program.sizes, tuple(sorted(plain.singles)))
        self.assertEqual([level.text for level in program.rests], plain.rests)
        for size in range(2, 20):
            self.assertEqual(program.level(size).text, plain.level(size))

    def test_with_level(self):
        draw = drawing(12)
        for plain in some_plains():
            program = Program(plain.text)
            for size in range(2, 13):
                text = drawn_level(draw, size)
                self.hold(program.with_level(size, text), Plain(plain.rests, {**plain.singles, size: text}))
            self.hold(program, plain)

    def test_without_level(self):
        for plain in some_plains():
            program = Program(plain.text)
            for size in plain.singles:
                left = {other: plain.singles[other] for other in plain.singles if other != size}
                self.hold(program.without_level(size), Plain(plain.rests, left))
            self.hold(program, plain)

    def test_with_rest(self):
        draw = drawing(13)
        for plain in some_plains():
            program = Program(plain.text)
            for rest in range(len(plain.rests)):
                text = drawn_level(draw)
                rests = plain.rests[:rest] + [text] + plain.rests[rest + 1:]
                self.hold(program.with_rest(rest, text), Plain(rests, plain.singles))
            self.hold(program, plain)

    def test_one_behind_the_other(self):
        program = Program("period 1\nrest 0 same turn")
        for size in (7, 2, 12, 3):
            program = program.with_level(size, f"along 1 {size - 2}" if size < 12 else "same turn")
        self.hold(program, plain_of("period 1 / rest 0 same turn / level 2 along 1 0 / level 3 along 1 1 / "
                                    "level 7 along 1 5 / level 12 same turn"))
        for size in (3, 12, 2, 7):
            program = program.without_level(size)
        self.assertEqual(program.text, "period 1\nrest 0 same turn")


class RefusedTest(unittest.TestCase):
    def test_wrong_texts(self):
        for plain in some_plains():
            program = Program(plain.text)
            for text in (*WRONG_LEVELS, "list 0", "list 0 0"):
                for size in (2, 3, 4, 12):
                    index = wrong_part_of_level(text.split(" "), size)
                    if index is not None:
                        assert_raises(self, BadWord, "index", index, program.with_level, size, text)
                index = wrong_part_of_level(text.split(" "), None)
                assert_raises(self, BadWord, "index", index, program.with_rest, 0, text)
            self.assertEqual(program.text, plain.text)

    def test_sizes_that_are_none(self):
        for plain in some_plains():
            program = Program(plain.text)
            for text in ("same turn", "", "list 0"):
                for size in (1, 0, -1, 13, 1000, 10 ** 30, *NO_INTEGERS):
                    assert_raises(self, BadSize, "size", size, program.with_level, size, text)

    def test_rests_that_are_none(self):
        for plain in some_plains():
            program = Program(plain.text)
            period = len(plain.rests)
            for text in ("same turn", "", "list 0"):
                for rest in (-1, period, period + 1, 10 ** 30, *NO_INTEGERS):
                    assert_raises(self, BadNumber, "number", rest, program.with_rest, rest, text)

    def test_levels_that_are_not_there(self):
        for plain in some_plains():
            program = Program(plain.text)
            others = [size for size in range(-1, 16) if size not in plain.singles]
            for size in (*others, 10 ** 30, *NO_INTEGERS):
                assert_raises(self, NoLevel, "size", size, program.without_level, size)


class EqualityTest(unittest.TestCase):
    def test_programs_of_one_text(self):
        for plain in some_plains():
            self.assertTrue(Program(plain.text) == Program(plain.text))
            self.assertFalse(Program(plain.text) != Program(plain.text))

    def test_programs_of_other_texts(self):
        # They all do the same.
        texts = ("period 1\nrest 0 same turn", "period 2\nrest 0 same turn\nrest 1 same turn",
                 "period 1\nrest 0 same turn\nlevel 2 same turn", "period 1\nrest 0 same turn then exchange 0 0")
        for one, other in itertools.permutations(texts, 2):
            self.assertFalse(Program(one) == Program(other))
            self.assertTrue(Program(one) != Program(other))

    def test_objects_of_other_classes(self):
        program = Program("period 1\nrest 0 same turn")
        for other in (program.text, None, 1, Level("same turn"), (program.text,)):
            self.assertFalse(program == other)
            self.assertTrue(program != other)

    def test_drawn_programs(self):
        draw = drawing(14)
        texts = [drawn_plain(draw).text for _ in range(40)]
        for one, other in itertools.product(texts, repeat=2):
            self.assertIs(Program(one) == Program(other), one == other)


if __name__ == "__main__":
    unittest.main()
