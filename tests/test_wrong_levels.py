"""[8]: texts that are no levels, and the index that BadWord tells of them."""

import unittest

from everyorder.errors import BadWord
from everyorder.programs import Level
from helping import assert_raises
from leveling import drawing, drawn_level, wrong_part_of_level

RIGHT = (
    "same turn",
    "same turn to the end",
    "same exchange 0 -1 then turn",
    "same roll 0 -1 half then turn then exchange half 0 then roll 1 2 -3 to the end",
    "same exchange 0 1 then exchange 1 2 then exchange 2 3 then exchange 3 4",
    "along 1 0",
    "along -9 half-1",
    "along 2 half to the end",
    "along -1 -2 to the end",
)
PARTS = (
    "same", "along", "list", "to", "the", "end", "then", "turn", "exchange", "roll", "half", "half+1", "half-9",
    "0", "1", "2", "9", "10", "11", "-1", "-9", "", "00", "01", "+1", "-0", "To", "ends", "toto", "sam", "alongs",
    "lists", "half+0", "\n", "0\n", "end\n", "\u0661",
)
SIZES = (None, *range(2, 13))


def right_levels(size):
    """Levels that are let for the size; lists with and without the ending."""
    told = [text.split(" ") for text in RIGHT]
    if size is not None:
        places = [str((at * 3 + 1) % (size - 1)) for at in range(size)]
        told.append(["list", *places[:-1]])
        told.append(["list", *places, "to", "the", "end"])
    return told


class WrongLevelTest(unittest.TestCase):
    def hold(self, parts, size):
        """Hold that the text of these parts is a level just if it should be, and otherwise the index."""
        text = " ".join(parts)
        index = wrong_part_of_level(text.split(" "), size)
        if index is None:
            self.assertEqual(Level(text, size).text, text)
        else:
            with self.subTest(text=text, size=size):
                assert_raises(self, BadWord, "index", index, Level, text, size)

    def test_examples_by_hand(self):
        for text, size, index in (("list 0 0 1 to the end", 4, 4), ("list 0 0 1 2", 4, 5), ("list 0", None, 0),
                                  ("", None, 0), ("", 5, 0), ("same", None, 1), ("same ", 3, 1), ("along 1", 3, 2),
                                  ("list", 2, 1), ("list 1", 2, 1), ("list 0 0", 2, 3), ("list 0 0 0", 2, 3),
                                  ("along half 0", None, 1), ("along 1 0 to the", None, 5), ("same turn to", None, 3),
                                  ("along 1 0 to the end to the end", None, 6), ("same turn then to the end", 4, 3)):
            assert_raises(self, BadWord, "index", index, Level, text, size)
            self.assertEqual(wrong_part_of_level(text.split(" "), size), index)

    def test_a_fifth_move(self):
        text = "same " + " then ".join(["exchange 0 1"] * 4)
        assert_raises(self, BadWord, "index", 16, Level, text + " then turn")
        assert_raises(self, BadWord, "index", 16, Level, text + " then")
        assert_raises(self, BadWord, "index", 19, Level, text + " to the end then turn")

    def test_right_ones(self):
        for size in SIZES:
            for parts in right_levels(size):
                self.assertIsNone(wrong_part_of_level(parts, size))
                self.hold(parts, size)

    def test_parts_left_out_doubled_exchanged(self):
        for size in SIZES:
            for parts in right_levels(size):
                for at in range(len(parts)):
                    self.hold(parts[:at], size)
                    self.hold(parts[:at] + parts[at + 1:], size)
                    self.hold(parts[:at] + parts[at:at + 1] + parts[at:], size)
                    for other in range(at):
                        mixed = list(parts)
                        mixed[at], mixed[other] = mixed[other], mixed[at]
                        self.hold(mixed, size)

    def test_parts_put_in_and_behind(self):
        for size in (None, 2, 3, 7, 12):
            for parts in right_levels(size):
                for at in range(len(parts) + 1):
                    for part in PARTS:
                        self.hold([*parts[:at], part, *parts[at:]], size)
                        self.hold([*parts[:at], part, *parts[at + 1:]], size)

    def test_lists_of_all_lengths(self):
        for size in range(2, 13):
            for many in range(size + 4):
                for last in (0, size - 2, size - 1, size):
                    parts = ["list", *["0"] * max(many - 1, 0), *[str(last)] * min(many, 1)]
                    for ending in ([], ["to"], ["to", "the"], ["to", "the", "end"], ["to", "the", "end", "end"], [""]):
                        self.hold(parts + ending, size)

    def test_lists_for_another_size(self):
        for size in SIZES:
            for other in range(2, 13):
                for parts in right_levels(other):
                    self.hold(parts, size)

    def test_drawn_ones(self):
        draw = drawing(4)
        for _ in range(1500):
            size = draw.choice(SIZES)
            parts = drawn_level(draw, size).split(" ")
            for _ in range(draw.randint(1, 2)):
                at = draw.randrange(len(parts))
                parts[at:at + draw.randint(0, 2)] = [draw.choice(PARTS) for _ in range(draw.randint(0, 2))]
                parts = parts or [""]
            self.hold(parts, size)


if __name__ == "__main__":
    unittest.main()
