"""[7]: texts that are no words, and the index that BadWord tells of them."""

import itertools
import unittest

from everyorder.errors import BadWord
from everyorder.words import Word
from helping import assert_raises
from wording import BEGINNINGS, WORDS, wrong_part

RIGHT = (
    "turn",
    "exchange 0 -1",
    "roll 0 -1 1",
    "roll half-1 half+2 half",
    "turn then exchange half 3",
    "exchange 9 -9 then turn",
    "roll 0 half -9 then roll 1 -1 9",
    "exchange 0 1 then turn then roll 2 -2 -1",
    "turn then roll 0 -1 2 then exchange 0 -1",
    "roll 0 1 1 then roll 0 2 2 then roll 0 3 3",
    "exchange 0 1 then exchange 1 2 then exchange 2 3 then exchange 3 4",
    "roll 0 -1 half then turn then exchange half 0 then roll 1 2 -3",
    "roll 0 -1 1 then roll 0 -1 1 then roll 0 -1 1 then turn",
    "turn then roll 0 -1 1 then roll 0 -1 1 then roll 0 -1 1",
)

# What may be put in, right parts of each kind and wrong ones.
PARTS = (
    "exchange", "roll", "turn", "then", "0", "1", "-1", "9", "half", "half+1", "half-9",
    "", "ex", "exch", "exchanges", "Exchange", "rol", "rolls", "tur", "turns", "TURN", "the", "thens", "than", "to",
    "end", "same", "-0", "+1", "10", "half+0", "half+", "-", "-10", "turn\n", "0\n", "\t", "turn\tthen", "01", "\u0661",
)

# Each kind of sign that a part can have, by a part of this kind.
PART_OF_SIGN = {"x": "exchange", "r": "roll", "u": "turn", "t": "then", "b": "-2", "p": "half+3", "?": "ex"}


class WrongWordTest(unittest.TestCase):
    def hold(self, parts):
        """Hold that the text of these parts is a word just if it should be, and otherwise the index."""
        text = " ".join(parts)
        index = wrong_part(parts)
        if index is None:
            self.assertEqual(Word(text).text, text)
        else:
            with self.subTest(text=text):
                assert_raises(self, BadWord, "index", index, Word, text)

    def test_examples_by_hand(self):
        for text, index in (("roll 0 -1 0", 3), ("turn then turn", 2), ("exchange 0", 2), ("turn ", 1), ("", 0),
                            ("ex", 0)):
            assert_raises(self, BadWord, "index", index, Word, text)

    def test_right_ones(self):
        for text in RIGHT:
            self.assertIsNone(wrong_part(text.split(" ")))
            self.assertEqual(Word(text).text, text)

    def test_texts_that_end_too_soon(self):
        for text in RIGHT:
            parts = text.split(" ")
            for end in range(1, len(parts)):
                self.hold(parts[:end])
        for text, index in (("exchange", 1), ("exchange 0", 2), ("roll", 1), ("roll 0", 2), ("roll 0 -1", 3),
                            ("turn then", 2), ("turn then exchange 0", 4), ("turn then roll 0 -1", 5),
                            ("exchange 0 1 then", 4), ("roll 0 1 1 then", 5),
                            ("exchange 0 1 then exchange 0 1 then exchange 0 1 then", 12),
                            ("exchange 0 1 then exchange 0 1 then exchange 0 1 then roll 0 1", 15)):
            assert_raises(self, BadWord, "index", index, Word, text)

    def test_parts_left_out(self):
        for text in RIGHT:
            parts = text.split(" ")
            for at in range(len(parts)):
                self.hold(parts[:at] + parts[at + 1:] or [""])

    def test_parts_put_in(self):
        for text in RIGHT:
            parts = text.split(" ")
            for at in range(len(parts) + 1):
                for part in PARTS:
                    self.hold(parts[:at] + [part] + parts[at:])

    def test_parts_in_the_place_of_others(self):
        for text in RIGHT:
            parts = text.split(" ")
            for at in range(len(parts)):
                for part in PARTS:
                    self.hold(parts[:at] + [part] + parts[at + 1:])

    def test_parts_doubled(self):
        for text in RIGHT:
            parts = text.split(" ")
            for at in range(len(parts)):
                self.hold(parts[:at + 1] + parts[at:])

    def test_parts_exchanged(self):
        for text in RIGHT:
            parts = text.split(" ")
            for first, second in itertools.combinations(range(len(parts)), 2):
                other = list(parts)
                other[first], other[second] = other[second], other[first]
                self.hold(other)

    def test_parts_put_behind(self):
        for text in RIGHT:
            for behind in itertools.product(PARTS, repeat=2):
                self.hold(text.split(" ") + list(behind))
            for behind in RIGHT:
                self.hold(text.split(" ") + behind.split(" "))
                self.hold(text.split(" ") + ["then"] + behind.split(" "))

    def test_all_kinds_of_parts(self):
        """Behind each beginning of a word, each kind of part; so each step of the way is looked at."""
        for beginning in sorted(BEGINNINGS):
            if len(beginning) <= 9 or beginning.count("t") >= 3:
                self.hold([PART_OF_SIGN[sign] for sign in beginning] or [""])
                for sign in PART_OF_SIGN:
                    self.hold([PART_OF_SIGN[each] for each in beginning + sign])

    def test_blanks(self):
        for text in RIGHT:
            parts = text.split(" ")
            self.assertEqual(len(parts), text.count(" ") + 1)
            assert_raises(self, BadWord, "index", len(parts), Word, text + " ")
            assert_raises(self, BadWord, "index", len(parts), Word, text + "  ")
            assert_raises(self, BadWord, "index", 0, Word, " " + text)
            for at in range(1, len(parts)):
                assert_raises(self, BadWord, "index", at, Word, " ".join(parts[:at]) + "  " + " ".join(parts[at:]))
        for text in (" ", "  ", "   ", "\n", "\t"):
            assert_raises(self, BadWord, "index", 0, Word, text)

    def test_blanks_alone_part_a_text(self):
        for text, index in (("exchange\t0 1", 0), ("exchange 0\t1", 1), ("exchange 0\n1", 1), ("exchange 0 1\n", 2),
                            ("turn\nthen turn", 0), ("turn\u00a0then exchange 0 1", 0), ("turn,then,turn", 0),
                            ("turn then exchange 0 1\r", 4)):
            assert_raises(self, BadWord, "index", index, Word, text)

    def test_a_second_turn(self):
        for text, index in (("turn then turn", 2), ("turn then exchange 0 1 then turn", 6),
                            ("turn then roll 0 1 1 then turn then turn", 7),
                            ("exchange 0 1 then turn then turn", 6),
                            ("exchange 0 1 then turn then exchange 0 1 then turn", 10),
                            ("turn then exchange 0 1 then exchange 0 1 then turn", 10)):
            assert_raises(self, BadWord, "index", index, Word, text)

    def test_a_fifth_move(self):
        for word in sorted(WORDS):
            if word.count("t") == 3:
                parts = [PART_OF_SIGN[sign] for sign in word]
                text = " ".join(parts)
                assert_raises(self, BadWord, "index", len(parts), Word, text + " then")
                if word.count("b") % 3 == 0:
                    assert_raises(self, BadWord, "index", len(parts), Word, text + " then exchange 0 1")
                    assert_raises(self, BadWord, "index", len(parts), Word, text + " then turn")

    def test_parts_are_taken_whole(self):
        for text, index in (("exchange0 1", 0), ("exchange 01", 1), ("exchange 0 1then turn", 2), ("turnthen", 0),
                            ("turn the", 1), ("turn thenturn", 1), ("rol 0 1 1", 0), ("roll 0 1 1 1", 4),
                            ("exchange 0 1 2", 3), ("turn 0", 1)):
            assert_raises(self, BadWord, "index", index, Word, text)

    def test_amounts_that_are_none(self):
        for amount in ("0", "-0", "+1", "10", "half+1", "half-1", "-half", "", "one"):
            assert_raises(self, BadWord, "index", 3, Word, "roll 0 -1 " + amount)
            assert_raises(self, BadWord, "index", 5, Word, "turn then roll 0 -1 " + amount)


if __name__ == "__main__":
    unittest.main()
