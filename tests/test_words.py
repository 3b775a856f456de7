"""[6], [7]: moves, and words that are right."""

import itertools
import unittest

from everyorder.errors import BadSize
from everyorder.maps import done, joined
from everyorder.words import Word
from helping import NO_INTEGERS, assert_raises
from wording import AMOUNTS, PLACES, row_by_moves, value_of

EXCHANGES = [("exchange", x, y) for x in PLACES for y in PLACES]
ROLL_ENDS = [(x, y) for x in PLACES for y in PLACES]
# Places of every kind and amounts of every kind, few enough that all rolls of them may be tried.
SOME_PLACES = ("0", "1", "2", "5", "9", "-1", "-2", "-4", "half", "half-1", "half-3", "half+1", "half+2")
TURN = ("turn",)


def text_of(moves):
    return " then ".join(" ".join(move) for move in moves)


def word_of(*moves):
    return Word(text_of(moves))


def some_moves():
    """Moves of every kind, of which words of several moves are made."""
    return (
        ("exchange", "0", "-1"),
        ("exchange", "half", "2"),
        ("exchange", "-3", "half+1"),
        ("roll", "0", "-1", "1"),
        ("roll", "1", "half", "half"),
        ("roll", "half-1", "-2", "-3"),
        ("roll", "0", "3", "9"),
    )


def words_of(many):
    """Words of so many moves: without a turn, and with one at each place."""
    moves = some_moves()
    for start in range(len(moves)):
        told = [moves[(start + at * (start + 2)) % len(moves)] for at in range(many)]
        yield told
        for at in range(many):
            yield told[:at] + [TURN] + told[at + 1:]


class ExampleTest(unittest.TestCase):
    def test_examples_by_hand(self):
        self.assertEqual(Word("roll 0 -1 1").at(4), [3, 0, 1, 2])
        self.assertEqual(done(Word("roll 0 -1 1").at(4), ["a", "b", "c", "d"]), ["d", "a", "b", "c"])
        self.assertEqual(Word("exchange 0 -1 then turn").at(3), [0, 1, 2])
        self.assertEqual(Word("roll 1 half half").at(8), [0, 3, 4, 1, 2, 5, 6, 7])
        self.assertEqual(Word("exchange 0 5").at(5), [0, 1, 2, 3, 4])
        self.assertEqual(Word("exchange -1 0").at(3), [2, 1, 0])
        self.assertEqual(Word("turn then roll 0 half-1 -2").moves, (("turn",), ("roll", "0", "half-1", "-2")))
        assert_raises(self, BadSize, "size", 0, Word("turn").at, 0)


class ExchangeTest(unittest.TestCase):
    def test_every_pair_of_places(self):
        for move in EXCHANGES:
            word = word_of(move)
            for size in (*range(1, 13), 20, 21):
                self.assertEqual(word.at(size), row_by_moves([move], size), (move, size))

    def test_a_thousand(self):
        for move in EXCHANGES:
            if move[1] in SOME_PLACES and move[2] in SOME_PLACES:
                self.assertEqual(word_of(move).at(1000), row_by_moves([move], 1000), move)

    def test_any_order_of_the_places(self):
        for size in range(1, 12):
            self.assertEqual(Word("exchange 2 -2").at(size), Word("exchange -2 2").at(size))
        self.assertEqual(Word("exchange 3 1").at(5), [0, 3, 2, 1, 4])

    def test_places_that_are_not_in_k(self):
        for word in ("exchange 0 4", "exchange 4 0", "exchange -5 0", "exchange 0 -5", "exchange half+2 1",
                     "exchange half-3 1", "exchange 1 half+2", "exchange 9 -9", "exchange -9 half-9"):
            self.assertEqual(Word(word).at(4), [0, 1, 2, 3], word)

    def test_one_and_the_same_place(self):
        for word in ("exchange 0 0", "exchange 2 half", "exchange -1 3", "exchange half-1 -3"):
            self.assertEqual(Word(word).at(4), [0, 1, 2, 3], word)


class RollTest(unittest.TestCase):
    def test_every_amount_and_every_pair_of_places(self):
        for x, y in ROLL_ENDS:
            for amount in AMOUNTS:
                move = ("roll", x, y, amount)
                word = word_of(move)
                for size in (5, 8):
                    self.assertEqual(word.at(size), row_by_moves([move], size), (move, size))

    def test_small_sizes(self):
        for x, y in itertools.product(SOME_PLACES, repeat=2):
            for amount in AMOUNTS:
                move = ("roll", x, y, amount)
                word = word_of(move)
                for size in (1, 2, 3, 4, 6, 7, 9, 10, 11, 12, 13):
                    self.assertEqual(word.at(size), row_by_moves([move], size), (move, size))

    def test_a_thousand(self):
        for x, y in itertools.product(("0", "3", "-1", "-9", "half", "half-2", "half+9"), repeat=2):
            for amount in ("half", "1", "-1", "7", "-9"):
                move = ("roll", x, y, amount)
                self.assertEqual(word_of(move).at(1000), row_by_moves([move], 1000), move)

    def test_by_hand(self):
        self.assertEqual(Word("roll 0 -1 -1").at(4), [1, 2, 3, 0])
        self.assertEqual(Word("roll 0 -1 half").at(4), [2, 3, 0, 1])
        self.assertEqual(Word("roll 0 -1 half").at(5), [3, 4, 0, 1, 2])
        self.assertEqual(Word("roll 0 -1 2").at(5), [3, 4, 0, 1, 2])
        self.assertEqual(Word("roll 0 -1 9").at(4), [3, 0, 1, 2])
        self.assertEqual(Word("roll 0 -1 4").at(4), [0, 1, 2, 3])
        self.assertEqual(Word("roll 0 -1 -9").at(4), [1, 2, 3, 0])
        self.assertEqual(Word("roll 1 3 1").at(6), [0, 3, 1, 2, 4, 5])
        self.assertEqual(Word("roll 0 1 1").at(3), [1, 0, 2])
        self.assertEqual(Word("roll 0 1 half").at(3), [1, 0, 2])
        self.assertEqual(Word("roll 0 1 2").at(3), [0, 1, 2])

    def test_blocks_that_are_none(self):
        for size in range(1, 12):
            for x, y in ROLL_ENDS:
                low, high = value_of(x, size), value_of(y, size)
                if low >= high or low < 0 or high >= size:
                    for amount in ("1", "-2", "half"):
                        self.assertEqual(word_of(("roll", x, y, amount)).at(size), list(range(size)), (x, y, size))


class TurnTest(unittest.TestCase):
    def test_sizes(self):
        for size in (*range(1, 40), 999, 1000):
            self.assertEqual(Word("turn").at(size), list(range(size))[::-1])


class SeveralMovesTest(unittest.TestCase):
    def test_one_to_four_moves(self):
        for many in range(1, 5):
            for moves in words_of(many):
                if moves.count(TURN) <= 1:
                    word = word_of(*moves)
                    self.assertEqual(len(word.moves), many)
                    for size in (1, 2, 3, 4, 5, 8, 9, 12, 13, 1000):
                        self.assertEqual(word.at(size), row_by_moves(moves, size), (moves, size))

    def test_from_left_to_right(self):
        for first, second in itertools.permutations((*some_moves(), TURN), 2):
            for size in range(1, 14):
                self.assertEqual(word_of(first, second).at(size),
                                 joined(word_of(first).at(size), word_of(second).at(size)))
        self.assertEqual(Word("exchange 0 1 then roll 0 -1 1").at(3), [2, 1, 0])
        self.assertEqual(Word("roll 0 -1 1 then exchange 0 1").at(3), [0, 2, 1])

    def test_a_move_may_come_again(self):
        for move in some_moves():
            for size in (3, 8):
                self.assertEqual(word_of(move, move, move, move).at(size), row_by_moves([move] * 4, size))


class AttributeTest(unittest.TestCase):
    def test_text_and_moves(self):
        for many in range(1, 5):
            for moves in words_of(many):
                if moves.count(TURN) <= 1:
                    word = word_of(*moves)
                    self.assertEqual(word.text, text_of(moves))
                    self.assertIs(type(word.text), str)
                    self.assertEqual(word.moves, tuple(moves))
                    self.assertIs(type(word.moves), tuple)
                    for move in word.moves:
                        self.assertIs(type(move), tuple)
                        for part in move:
                            self.assertIs(type(part), str)
                    self.assertIs(word.has_turn, TURN in moves)

    def test_has_turn(self):
        for text in ("turn", "turn then exchange 0 1", "exchange 0 1 then turn",
                     "exchange 0 1 then turn then roll 0 1 1",
                     "roll 0 1 1 then exchange 0 1 then roll 0 1 1 then turn"):
            self.assertIs(Word(text).has_turn, True)
        for text in ("exchange 0 1", "roll 0 1 1", "roll 0 -1 half then exchange half -1"):
            self.assertIs(Word(text).has_turn, False)

    def test_amounts_and_places_stay_texts(self):
        for amount in AMOUNTS:
            self.assertEqual(Word(f"roll 0 -1 {amount}").moves, (("roll", "0", "-1", amount),))
        for place in PLACES:
            self.assertEqual(Word(f"exchange {place} 0").moves, (("exchange", place, "0"),))
            self.assertEqual(Word(f"exchange 0 {place}").moves, (("exchange", "0", place),))


class EqualityTest(unittest.TestCase):
    def test_words_of_one_text(self):
        for text in ("turn", "exchange 0 1", "roll 0 -1 half then turn"):
            self.assertTrue(Word(text) == Word(text))
            self.assertFalse(Word(text) != Word(text))
            word = Word(text)
            self.assertTrue(word == word)

    def test_words_of_other_texts(self):
        # The last two do the same as the first two.
        texts = ("exchange 0 1", "turn", "roll 0 -1 1", "roll 0 -1 -1", "exchange 1 0", "turn then exchange 0 0")
        for one, other in itertools.permutations(texts, 2):
            self.assertFalse(Word(one) == Word(other))
            self.assertTrue(Word(one) != Word(other))

    def test_objects_of_other_classes(self):
        word = Word("turn")
        for other in ("turn", ("turn",), (("turn",),), None, True, 0, ["turn"], object(), Alike()):
            self.assertFalse(word == other)
            self.assertTrue(word != other)


class Alike:
    """An object of another class with the attributes of a word."""

    def __init__(self):
        self.text = "turn"
        self.moves = (("turn",),)
        self.has_turn = True


class AtTest(unittest.TestCase):
    def test_every_size(self):
        word = Word("roll 0 -1 1")
        for size in range(1, 1001):
            self.assertEqual(word.at(size), [size - 1, *range(size - 1)])

    def test_sizes_that_are_none(self):
        for text in ("turn", "exchange 0 1", "roll 0 -1 half then turn then exchange half 0"):
            word = Word(text)
            for size in (0, -1, -1000, 1001, 1002, 10 ** 30, -10 ** 30):
                assert_raises(self, BadSize, "size", size, word.at, size)
            for size in NO_INTEGERS:
                assert_raises(self, BadSize, "size", size, word.at, size)

    def test_what_is_told_is_new(self):
        for text in ("turn", "exchange 0 9", "exchange 0 1", "roll 3 1 1", "roll 0 -1 half"):
            word = Word(text)
            told = word.at(4)
            self.assertIs(type(told), list)
            first = list(told)
            told.append(9)
            told[0] = "changed"
            self.assertEqual(word.at(4), first)
            self.assertEqual(word, Word(text))
            self.assertEqual(word.moves, Word(text).moves)


if __name__ == "__main__":
    unittest.main()
