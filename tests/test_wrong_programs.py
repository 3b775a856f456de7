"""[9]: texts that are no programs, and the line that BadText tells of them."""

import re
import unittest

from everyorder.errors import BadText
from everyorder.programs import Program
from helping import assert_raises
from leveling import Plain, drawing, drawn_level, drawn_plain, wrong_part_of_level

# A number in the figures 0 to 9, without a 0 ahead.
HEADS = {
    "period": re.compile(r"period ([1-6])\Z"),
    "rest": re.compile(r"rest (0|[1-9][0-9]*) (.*)\Z", re.DOTALL),
    "level": re.compile(r"level ([1-9][0-9]*) (.*)\Z", re.DOTALL),
}


def is_level(text, size):
    return wrong_part_of_level(text.split(" "), size) is None


def wrong_line(text):
    """The line that [9] asks for this text; None if it is a program."""
    lines = text.split("\n")
    period = HEADS["period"].match(lines[0])
    if not period:
        return 1
    last = 1
    for number, line in enumerate(lines[1:], start=2):
        if number - 2 < int(period[1]):
            told = HEADS["rest"].match(line)
            if not told or int(told[1]) != number - 2 or not is_level(told[2], None):
                return number
        else:
            told = HEADS["level"].match(line)
            if not told or not last < int(told[1]) <= 12 or not is_level(told[2], int(told[1])):
                return number
            last = int(told[1])
    return len(lines) + 1 if len(lines) < int(period[1]) + 1 else None


def some_plains():
    draw = drawing(21)
    for period in range(1, 7):
        for many in (0, 1, 3, 11):
            rests = [drawn_level(draw) for _ in range(period)]
            yield Plain(rests, {size: drawn_level(draw, size) for size in draw.sample(range(2, 13), many)})


LINES = (
    "", " ", "period 1", "rest 0 same turn", "rest 1 same turn", "rest 5 same turn", "rest 6 same turn",
    "level 1 same turn", "level 2 same turn", "level 2 list 0", "level 3 list 0", "level 7 along 1 0",
    "level 12 along -1 -2 to the end", "level 13 same turn", "level 02 same turn", "level +3 same turn",
    "level  4 same turn", "level 4  same turn", "level 4 same turn ", "level 4", "level 4 ", "level", "rest", "rest 0",
    "rest 00 same turn", "rest -0 same turn", "Level 4 same turn", "level 4 list 0 0 0 0", "level 4\tsame turn",
    "level 4 same turn\r", "same turn", "level \u0664 same turn", "level 4 same turn to", "rest 0 list 0",
    "level four same turn", "level 12 list 0", "level " + "9" * 30 + " same turn",
)
FIRST_LINES = ("", "period", "period ", "period 0", "period 7", "period 01", "period +1", "period 1 ", " period 1",
               "period  1", "period one", "Period 1", "period 1.0", "period \u0661", "period 1\r", "period -1",
               "periods 1", "period 10", "rest 0 same turn", "period 1 1")


class WrongProgramTest(unittest.TestCase):
    def hold(self, lines):
        """Hold that these lines are a program just if they should be, and otherwise the line."""
        text = "\n".join(lines)
        line = wrong_line(text)
        if line is None:
            self.assertEqual(Program(text).text, text)
        else:
            with self.subTest(text=text):
                assert_raises(self, BadText, "line", line, Program, text)

    def test_example_by_hand(self):
        lines = ["period 2", "rest 1 same exchange 0 -1", "rest 0 along 1 0"]
        assert_raises(self, BadText, "line", 2, Program, "\n".join(lines))
        self.assertEqual(wrong_line("\n".join(lines)), 2)

    def test_by_hand(self):
        for text, line in (("", 1), ("\n", 1), ("period 1", 2), ("period 1\n", 2), ("period 2\nrest 0 same turn", 3),
                           ("period 1\nrest 0 same turn\n", 3), ("period 1\nrest 0 same turn\nrest 1 same turn", 3),
                           ("period 1\n\nrest 0 same turn", 2), ("period 1\nrest 0 list 0", 2),
                           ("period 1\nrest 0 same turn\nlevel 3 same turn\nlevel 3 same turn", 4),
                           ("period 1\nrest 0 same turn\nlevel 3 same turn\nlevel 2 same turn", 4),
                           ("period 1\nrest 0 same turn\nlevel 3 list 0", 3), ("period 6", 2),
                           ("period 1\rrest 0 same turn", 1), ("period 1\x0brest 0 same turn", 1)):
            assert_raises(self, BadText, "line", line, Program, text)
            self.assertEqual(wrong_line(text), line)

    def test_right_ones(self):
        for plain in some_plains():
            self.assertIsNone(wrong_line(plain.text))
            self.hold(plain.lines)

    def test_first_lines(self):
        for plain in some_plains():
            for first in (*FIRST_LINES, *(f"period {period}" for period in range(9))):
                self.hold([first, *plain.lines[1:]])

    def test_lines_left_out_doubled_exchanged(self):
        for plain in some_plains():
            lines = plain.lines
            for at in range(len(lines)):
                self.hold(lines[:at] or [""])
                self.hold(lines[:at] + lines[at + 1:] or [""])
                self.hold(lines[:at + 1] + lines[at:])
                for other in range(at):
                    mixed = list(lines)
                    mixed[at], mixed[other] = mixed[other], mixed[at]
                    self.hold(mixed)

    def test_lines_put_in_and_behind(self):
        for plain in some_plains():
            lines = plain.lines
            for at in range(len(lines) + 1):
                for line in LINES:
                    self.hold([*lines[:at], line, *lines[at:]])
                    self.hold([*lines[:at], line, *lines[at + 1:]])

    def test_empty_last_lines(self):
        for plain in some_plains():
            assert_raises(self, BadText, "line", len(plain.lines) + 1, Program, plain.text + "\n")

    def test_spoiled_lines(self):
        draw = drawing(22)
        for _ in range(600):
            lines = drawn_plain(draw).lines
            for _ in range(draw.randint(1, 2)):
                at = draw.randrange(len(lines))
                parts = lines[at].split(" ")
                spot = draw.randrange(len(parts))
                parts[spot:spot + 1] = draw.choice(([], ["0"], ["", ""], ["to"], ["2", "2"], ["-1"], ["same"]))
                lines[at] = " ".join(parts)
            self.hold(lines)

    def test_lists_with_one_place_too_many_or_too_few(self):
        for size in range(2, 13):
            for many in range(size + 3):
                for ending in ("", " to the end"):
                    level = f"list{' 0' * many}{ending}"
                    self.hold(["period 1", "rest 0 same turn", f"level {size} {level}"])
                    self.hold(["period 1", f"rest 0 {level}"])


if __name__ == "__main__":
    unittest.main()
