"""[5]: place words."""

import itertools
import unittest

from everyorder.errors import BadSize, BadWord
from everyorder.words import place_value
from helping import NO_INTEGERS, assert_raises
from wording import FIGURES, PLACES, value_of

SIZES = (1, 2, 3, 4, 5, 8, 9, 10, 17, 18, 19, 100, 999, 1000, 1001, 10 ** 29, 10 ** 30, 10 ** 30 + 1,
         123456789012345678901234567891)

NO_PLACES = (
    "", " ", "  ", "-", "+", "--", "-0", "+0", "+1", "+9", "--1", "-+1", "00", "01", "10", "11", "99", "-10", "-01",
    "1 ", " 1", "0 ", " 0", "-1 ", " -1", "- 1", "1-", "0-", "5+", "half ", " half", "half+0", "half-0", "half+",
    "half-", "half0", "half1", "half9", "half10", "half+10", "half-10", "half+01", "half--1", "half++1", "half+-1",
    "half-+1", "half +1", "half+ 1", "half -1", "half- 1", "half+1 ", " half+1", "half+half", "halfhalf", "-half",
    "+half", "1half", "half-1-1", "Half", "HALF", "hal", "alf", "h", "half*2", "k", "k-1", "x", "turn", "then", "roll",
    "exchange", "1.0", "1e0", "0x1", "1_", "_1", "1\n", "\n", "\n1", "half\n", "-1\n", "half+1\n", "\t1", "1\t",
    "\u0661", "\u00b9", "\uff11", "-\u0661", "half+\u0661", "\u22121", "None", "12", "123456789", "half+123456789",
    "half-half+1",
)


class PlaceWordTest(unittest.TestCase):
    def test_examples_by_hand(self):
        self.assertEqual(place_value("half-2", 9), 2)
        self.assertEqual(place_value("-3", 2), -1)
        self.assertEqual(place_value("7", 5), 7)
        assert_raises(self, BadWord, "index", 0, place_value, "half+0", 9)

    def test_there_are_thirty_eight(self):
        self.assertEqual(len(PLACES), 38)

    def test_every_place_word_at_every_size(self):
        for word in PLACES:
            for size in SIZES:
                with self.subTest(word=word, size=size):
                    value = place_value(word, size)
                    self.assertIs(type(value), int)
                    self.assertEqual(value, value_of(word, size))

    def test_figures(self):
        for figure in range(10):
            for size in SIZES:
                self.assertEqual(place_value(str(figure), size), figure)

    def test_values_beyond_the_size(self):
        self.assertEqual(place_value("9", 1), 9)
        self.assertEqual(place_value("1", 1), 1)
        self.assertEqual(place_value("-9", 1), -8)
        self.assertEqual(place_value("half-9", 1), -9)
        self.assertEqual(place_value("half+9", 1), 9)
        self.assertEqual(place_value("half", 1), 0)
        self.assertEqual(place_value("half+1", 2), 2)
        self.assertEqual(place_value("half-2", 3), -1)

    def test_sizes_of_thirty_figures(self):
        size = 10 ** 30 + 1
        self.assertEqual(place_value("-9", size), 10 ** 30 - 8)
        self.assertEqual(place_value("half", size), 5 * 10 ** 29)
        self.assertEqual(place_value("half+9", size), 5 * 10 ** 29 + 9)
        self.assertEqual(place_value("half-9", size), 5 * 10 ** 29 - 9)
        self.assertEqual(place_value("0", size), 0)
        self.assertEqual(place_value("8", size), 8)

    def test_texts_that_are_none(self):
        for word in NO_PLACES:
            for size in (1, 9, 10 ** 30):
                with self.subTest(word=word, size=size):
                    assert_raises(self, BadWord, "index", 0, place_value, word, size)

    def test_all_short_texts(self):
        signs = ["", "0", *FIGURES, "-", "+", " ", "half", "h"]
        for parts in itertools.product(signs, repeat=3):
            word = "".join(parts)
            if word not in PLACES:
                assert_raises(self, BadWord, "index", 0, place_value, word, 9)

    def test_sizes_that_are_none(self):
        for word in PLACES:
            for size in (0, -1, -2, -10 ** 30):
                assert_raises(self, BadSize, "size", size, place_value, word, size)
            for size in NO_INTEGERS:
                assert_raises(self, BadSize, "size", size, place_value, word, size)

    def test_bad_word_ahead_of_bad_size(self):
        for word in NO_PLACES:
            for size in (0, -1, *NO_INTEGERS):
                assert_raises(self, BadWord, "index", 0, place_value, word, size)


if __name__ == "__main__":
    unittest.main()
