"""[25], [26], [27]: the rings of what words make, for all sizes."""

import itertools
import unittest
from unittest import mock

from everyorder.errors import BadNumber, BadSize, Mixed
from everyorder.maps import joined, undone
from everyorder.rings import is_one_ring, rings_of
from everyorder.ringtables import (RingTable, branches_of, first_in_branch, first_many, first_modulus, is_one_at,
                                   many_turns, table_of)
from everyorder.runs import MOST_SIZE, runs_of, wider_runs
from everyorder.straights import value_at
from everyorder.words import Word
from helping import NO_INTEGERS, assert_raises
from leveling import drawing
from running import MOST, rings_by_walking
from wording import AMOUNTS, PLACES

FIGURES = [amount for amount in AMOUNTS if amount != "half"]
HALVES = sorted(place for place in PLACES if place.startswith("half"))
WHOLES = sorted(place for place in PLACES if not place.startswith("half"))


class Draw:
    """Draws words of few moves with at most one half among them all."""

    def __init__(self, seed):
        self.draw = drawing(seed)
        self.halves = 0

    def place(self, near):
        if self.halves > 0 and self.draw.random() < 0.2:
            self.halves -= 1
            return self.draw.choice(HALVES)
        return self.draw.choice(near if self.draw.random() < 0.8 else WHOLES)

    def move(self):
        first, last = self.place(("0", "1", "2", "3")), self.place(("-1", "-2", "-3", "-4"))
        if self.draw.random() < 0.25:
            return f"exchange {first} {last}"
        if self.halves > 0 and self.draw.random() < 0.15:
            self.halves -= 1
            return f"roll {first} {last} half"
        return f"roll {first} {last} {self.draw.choice(FIGURES)}"

    def word(self, turn):
        moves = [self.move() for _ in range(self.draw.randint(0 if turn else 1, 2))]
        if turn:
            moves.insert(self.draw.randint(0, len(moves)), "turn")
        return Word(" then ".join(moves))

    def pair(self, turns):
        """A word, and another one or None; `turns` tells which have a turn."""
        self.halves = self.draw.randint(0, 1)
        return [None if turn is None else self.word(turn) for turn in turns]


def list_at(w, v, k):
    """What the words make at a size, as a plain list."""
    if v is None:
        return w.at(k)
    return joined([*undone(v.at(k - 1)), k - 1], w.at(k))


def runs_at(w, v, k):
    return runs_of(w, k) if v is None else wider_runs(~runs_of(v, k - 1)) * runs_of(w, k)


def told_by_lines(table, k):
    """The rings at a size, by the lines of its rest."""
    x, rest = divmod(k, table.modulus)
    many = {}
    for a, b, c, d in table.lines(rest):
        assert a * x + b > 0 and c * x + d > 0
        many[c * x + d] = many.get(c * x + d, 0) + a * x + b
    return [(many[places], places) for places in sorted(many)]


def first_by_walking(w, v, high):
    """The least size less than high at which there is not one ring; None if there is none."""
    for k in range(2, high):
        if rings_by_walking(list_at(w, v, k)) != [(1, k)]:
            return k
    return None


SEVERAL = (
    ("roll 0 -1 2", None), ("roll 0 -1 half", None), ("exchange 0 -1", None), ("roll 0 half 1", None),
    ("roll 1 -2 -3 then exchange 0 half", None), ("roll 0 -1 9 then roll 0 -2 -7", None), ("exchange 3 3", None),
    ("roll 0 -1 6 then roll half -1 4", None), ("turn", "turn"), ("turn then roll 0 -1 3", "roll 0 -1 4 then turn"),
    ("exchange 0 -1 then turn", "turn then exchange 1 -2"), ("roll 0 -1 1", "roll 0 -1 1"),
    ("roll 0 -1 3", "roll 0 -1 2"), ("roll 0 -1 5 then exchange 1 -1", "roll 1 half-2 3"), ("roll 4 9 2", "roll 3 8 5"),
    ("roll 0 -1 half", "exchange 2 -9"), ("exchange -1 half+9", "roll 0 -2 -8"), ("roll 0 half-9 4", "roll 0 -1 -9"),
    # More halves than callers hand in.
    ("roll 0 half half", None), ("roll 0 half half then roll half -1 half", "roll 1 half-1 2"),
    ("roll 0 half-1 3 then exchange half -1", "roll half -1 half"), ("roll half half+1 1 then roll 0 half half", None),
    ("turn then roll 0 half half", "roll half-1 -1 half then turn"), ("roll 0 -2 half", "roll 0 half+3 half"),
)


def several_words():
    for w, v in SEVERAL:
        yield Word(w), None if v is None else Word(v)


class ExampleTest(unittest.TestCase):
    def test_examples_by_hand(self):
        w = Word("roll 0 -1 2")
        table = table_of(w)
        self.assertEqual(table.at(10 ** 30), [(2, 5 * 10 ** 29)])
        for k in range(max(2, table.start), 40):
            self.assertEqual(told_by_lines(table, k), [(1, k)] if k % 2 else [(2, k // 2)])
        self.assertEqual(first_many(w), 2)
        self.assertIsNone(first_many(Word("roll 0 -1 1")))
        self.assertIsNone(first_many(Word("turn"), Word("turn")))
        self.assertEqual(first_many(Word("turn")), 3)
        self.assertEqual(first_many(Word("roll 0 -1 half")), 4)


class TableTest(unittest.TestCase):
    def hold(self, draw, w, v, sizes):
        table = table_of(w) if v is None else table_of(w, v)
        self.assertIs(type(table), RingTable)
        for number in (table.modulus, table.start):
            self.assertIs(type(number), int)
            self.assertGreater(number, 0)
        for k in sizes:
            self.assertEqual(table.at(k), rings_by_walking(list_at(w, v, k)), (w.text, v and v.text, k))
        far = (100, 10 ** 6, 10 ** 30 - 1, 10 ** 30, draw.randint(100, 10 ** 9), draw.randint(100, MOST))
        for k in far:
            self.assertEqual(table.at(k), rings_of(runs_at(w, v, k)))
        start = max(2, table.start)
        near = (start, start + 1, start + 2, start + table.modulus, start + draw.randint(0, 3 * table.modulus))
        for k in (*near, *(k for k in (*sizes, *far) if k >= start)):
            self.assertEqual(told_by_lines(table, k), table.at(k), (w.text, v and v.text, k))

    def test_several_words(self):
        draw = drawing(101)
        for w, v in several_words():
            self.hold(draw, w, v, range(2, 61))

    def test_drawn_words(self):
        words = Draw(102)
        for turns in ((False, None), (False, False), (True, True)):
            for _ in range(60):
                self.hold(words.draw, *words.pair(turns), words.draw.sample(range(2, 61), 10))

    def test_all_rests(self):
        for w, v in itertools.islice(several_words(), 0, None, 2):
            table = table_of(w, v)
            for rest in range(table.modulus):
                self.assertIs(type(table.lines(rest)), list)
                for line in table.lines(rest):
                    self.assertIs(type(line), tuple)
                    self.assertEqual([type(number) for number in line], [int] * 4)
                # Two sizes of each rest, so that both numbers of a line are held.
                least = rest + table.modulus * -(-max(2, table.start) // table.modulus)
                for k in (least, least + table.modulus * 10 ** 9):
                    told = told_by_lines(table, k)
                    self.assertEqual(told, table.at(k))
                    self.assertEqual(sum(many * places for many, places in told), k)

    def test_each_branch_by_itself(self):
        """Each part of a table is right from its own least size on, not only from the start of the table on."""
        words = Draw(106)
        several = [pair for pair in several_words() if many_turns(*pair) != 1]
        for w, v in several + [words.pair(turns) for turns in ((False, None), (False, False), (True, True)) * 12]:
            sizes = set()
            for branch in branches_of(w, v, first_modulus(w, v), False):
                for x in range(branch.low, branch.low + 3):
                    k = branch.modulus * x + branch.rest
                    self.assertGreaterEqual(k, 2)
                    sizes.add(k)
                    many = {}
                    for rings, places in branch.found:
                        told = value_at(places, x)
                        many[told] = many.get(told, 0) + value_at(rings, x)
                    walked = rings_by_walking(list_at(w, v, k)) if k <= 1000 else rings_of(runs_at(w, v, k))
                    self.assertEqual([(many[places], places) for places in sorted(many)], walked, (w.text, k))
            start = table_of(w, v).start
            self.assertTrue(set(range(max(start, 2), start + 3)) <= sizes or min(sizes) > start)

    def test_all_places_of_one_roll(self):
        for first, last in itertools.product(("0", "5", "half-3", "-4"), ("-1", "half+2", "9", "1")):
            for amount in ("1", "-6", "9"):
                w = Word(f"roll {first} {last} {amount}")
                table = table_of(w)
                for k in (*range(2, 24), 60):
                    self.assertEqual(table.at(k), rings_by_walking(w.at(k)))
                for k in range(max(2, table.start), max(2, table.start) + 20):
                    self.assertEqual(told_by_lines(table, k), table.at(k))

    def test_lists_are_new(self):
        table = table_of(Word("roll 0 -1 2"))
        told = [table.at(10), *[table.lines(rest) for rest in range(table.modulus)]]
        kept = [list(each) for each in told]
        for each in told:
            each.clear()
        self.assertEqual([table.at(10), *[table.lines(rest) for rest in range(table.modulus)]], kept)


class RefusedTest(unittest.TestCase):
    def test_mixed(self):
        words = Draw(103)
        for turns in itertools.product((False, True), (None, False, True)):
            for _ in range(10):
                w, v = words.pair(turns)
                if turns.count(True) == 1:
                    with self.assertRaises(Mixed) as caught:
                        table_of(w, v)
                    self.assertIs(type(caught.exception), Mixed)
                else:
                    table_of(w, v)
        with self.assertRaises(Mixed):
            table_of(Word("turn"))

    def test_sizes_that_are_none(self):
        for w, v in several_words():
            table = table_of(w, v)
            for size in (1, 0, -1, MOST_SIZE + 1, 10 ** 31, *NO_INTEGERS):
                assert_raises(self, BadSize, "size", size, table.at, size)
            self.assertEqual(sum(many * places for many, places in table.at(2)), 2)

    def test_rests_that_are_none(self):
        for w, v in several_words():
            table = table_of(w, v)
            for rest in (-1, table.modulus, table.modulus + 1, 10 ** 30, *NO_INTEGERS):
                assert_raises(self, BadNumber, "number", rest, table.lines, rest)
            table.lines(table.modulus - 1)


class FirstManyTest(unittest.TestCase):
    def hold(self, w, v, high):
        """Hold that what is told is right for all sizes less than high, and for some that are far."""
        told = first_many(w) if v is None else first_many(w, v)
        least = first_by_walking(w, v, high)
        if told is None or told >= high:
            self.assertIsNone(least, (w.text, v and v.text))
        else:
            self.assertEqual(told, least, (w.text, v and v.text))
        if told is None:
            for k in (high, 100, 101, 999, 1000, 10 ** 15 + 3, 10 ** 30 - 1, 10 ** 30):
                self.assertTrue(is_one_ring(runs_at(w, v, k)), (w.text, v and v.text, k))
        else:
            self.assertFalse(is_one_ring(runs_at(w, v, told)))
        return told

    def test_drawn_words(self):
        words = Draw(104)
        seen = set()
        for turns in itertools.product((False, True), (None, False, True)):
            for _ in range(120):
                seen.add(self.hold(*words.pair(turns), 61))
        self.assertIn(None, seen)
        self.assertGreater(len(seen), 8)

    def test_several_words(self):
        for w, v in several_words():
            self.hold(w, v, 61)

    def test_all_sizes_at_once(self):
        """The same without the first sizes being looked at one by one, where most words fail."""
        words = Draw(105)
        with mock.patch("everyorder.ringtables.FIRST_SIZES", 2):
            for turns in itertools.product((False, True), (None, False, True)):
                for _ in range(120):
                    self.hold(*words.pair(turns), 61)

    def test_each_branch_by_itself(self):
        """Whether there is one ring is right in each part, also where one word alone has a turn."""
        words = Draw(107)
        seen = set()
        # With one turn there is seldom one ring at many sizes.
        pairs = [(Word("turn then roll 1 half-1 1 then exchange 1 -1"), None),
                 (Word("roll half-4 -2 5 then roll 0 -2 5 then turn"), None)]
        for turns in itertools.product((False, True), (None, False, True)):
            pairs.extend(words.pair(turns) for _ in range(12))
        for w, v in pairs:
            one_turn = many_turns(w, v) == 1
            for branch in branches_of(w, v, 4, one_turn):
                least = None
                for x in range(branch.low, branch.low + 9):
                    k = branch.modulus * x + branch.rest
                    told = is_one_at(w, v, branch, x)
                    self.assertIs(told, is_one_ring(runs_at(w, v, k)), (w.text, v and v.text, k))
                    least = least if told or least else k
                    seen.add((one_turn, k % 2, told))
                self.assertEqual(first_in_branch(w, v, branch), least)
        self.assertEqual(len(seen), 8)

    def test_rolls_of_all_places(self):
        for amount in FIGURES:
            by = abs(int(amount))
            prime = next((p for p in range(2, by + 1) if by % p == 0), None)
            self.assertEqual(self.hold(Word(f"roll 0 -1 {amount}"), None, 61), prime)
            # Up to a size that is not one ring there are none that are.
            for k in range(2, prime or 61):
                self.assertTrue(is_one_ring(runs_of(Word(f"roll 0 -1 {amount}"), k)))

    def test_a_turn_behind_a_turn(self):
        for moves in ("", " then exchange 0 0", " then roll 3 1 2", " then exchange 5 half-9 then exchange half-9 5"):
            self.assertIsNone(self.hold(Word("turn" + moves), Word("turn"), 61))
        for moves in (" then exchange 0 -1", " then exchange 7 9", " then roll 0 -1 1"):
            self.assertIsNotNone(self.hold(Word("turn" + moves), Word("turn"), 61))

    def test_single_exchanges(self):
        for x, y in itertools.product(("0", "1", "2", "half", "half-1", "-1", "-2", "9"), repeat=2):
            w = Word(f"exchange {x} {y}")
            self.assertEqual(self.hold(w, None, 61), 2 if rings_by_walking(w.at(2)) != [(1, 2)] else 3)

    def test_a_word_behind_itself(self):
        for text in ("roll 0 -1 1", "roll 0 -1 -1", "roll 0 -1 2", "exchange 0 -1", "roll 1 -1 1",
                     "roll 0 -1 1 then turn", "turn then exchange 0 -1", "roll 0 -2 1", "roll 0 half 1",
                     "turn then roll 0 -1 -1"):
            self.hold(Word(text), Word(text), 61)
        # One place further on, and one back at a size below: one exchange at the end.
        self.assertEqual(first_many(Word("roll 0 -1 1"), Word("roll 0 -1 1")), 3)

    def test_great_first_sizes(self):
        """Words that make one ring up to a size that is not small."""
        found = {}
        for x, y in itertools.product(("0", "1", "3", "5", "8"), ("-1", "-2", "-4", "-6", "-9")):
            for move in (f"exchange {x} {y}", f"roll {x} 9 1", f"roll -9 {y} 2"):
                for v in ("turn", "turn then exchange -9 9", "turn then exchange -6 8"):
                    told = self.hold(Word(f"turn then {move}"), Word(v), 61)
                    found[told] = found.get(told, 0) + 1
        self.assertGreater(max(size for size in found if size is not None), 9)


if __name__ == "__main__":
    unittest.main()
