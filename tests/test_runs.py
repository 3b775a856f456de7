"""[19], [20], [21], [22]: runs, the functions that make them, their operators, and their way."""

import itertools
import unittest

from everyorder.errors import BadPlace, BadRow, BadSize
from everyorder.maps import joined, undone
from everyorder.runs import (Runs, exchange_runs, nothing_runs, roll_runs, runs_of, runs_of_list, wider_runs)
from everyorder.words import Word
from helping import NO_INTEGERS, assert_raises
from leveling import drawing
from running import (FAR, MOST, drawn_blocks, drawn_words, hold_one_form, list_of, moves_of, rows_of_list, some_places,
                     source_of)

NO_SIZES = (0, -1, -MOST, MOST + 1, 10 ** 31, *NO_INTEGERS)


def lists_and_runs(draw, sizes, many):
    """Pairs of a list and its runs: words and blocks of each size."""
    for size in sizes:
        for text in drawn_words(draw, many):
            word = Word(text)
            yield word.at(size), runs_of(word, size)
        for _ in range(many):
            row = drawn_blocks(draw, size)
            yield row, runs_of_list(row)


class ExampleTest(unittest.TestCase):
    def test_examples_by_hand(self):
        roll, turn = Word("roll 0 -1 1"), Word("turn")
        self.assertEqual(runs_of_list([1, 2, 0, 5, 4, 3]).rows, ((0, 2, 1, 1), (2, 1, 0, 1), (3, 3, 5, -1)))
        self.assertEqual(runs_of(roll, 10 ** 30).rows, ((0, 1, 10 ** 30 - 1, 1), (1, 10 ** 30 - 1, 0, 1)))
        self.assertEqual(runs_of(turn, 5).rows, ((0, 5, 4, -1),))
        self.assertEqual(runs_of(turn, 5).way, 1)
        self.assertEqual((runs_of(roll, 9) * runs_of(turn, 9)).rows, ((0, 8, 7, -1), (8, 1, 8, 1)))
        self.assertEqual((~roll_runs(10, 0, 9, 3)).rows, ((0, 7, 3, 1), (7, 3, 0, 1)))
        self.assertTrue(exchange_runs(4, 0, 4) == nothing_runs(4))


class OneFormTest(unittest.TestCase):
    def hold(self, runs, row):
        """Hold that these are the runs of this list."""
        self.assertIs(type(runs), Runs)
        self.assertEqual(runs.size, len(row))
        self.assertEqual(runs.rows, rows_of_list(row))
        hold_one_form(self, runs)
        self.assertEqual(list_of(runs), list(row))

    def test_words_and_blocks(self):
        for row, runs in lists_and_runs(drawing(71), range(1, 61), 12):
            self.hold(runs, row)

    def test_all_lists_of_few_places(self):
        for size in range(1, 7):
            for row in itertools.permutations(range(size)):
                self.hold(runs_of_list(row), row)
                self.hold(runs_of_list(list(row)), row)

    def test_lists_stay(self):
        row = [2, 0, 1]
        runs = runs_of_list(row)
        self.assertEqual(row, [2, 0, 1])
        row[0] = 7
        self.assertEqual(list_of(runs), [2, 0, 1])

    def test_a_thousand_places(self):
        draw = drawing(72)
        row = list(range(1000))
        draw.shuffle(row)
        self.hold(runs_of_list(row), row)
        self.hold(runs_of_list(row[:1] if row[0] == 0 else [0]), [0])

    def test_nothing(self):
        for size in (*range(1, 30), *FAR):
            self.assertEqual(nothing_runs(size).rows, ((0, size, 0, 1),))
            self.assertEqual(nothing_runs(size).size, size)

    def test_wider(self):
        for row, runs in lists_and_runs(drawing(73), range(1, 61), 5):
            rows = runs.rows
            self.hold(wider_runs(runs), [*row, len(row)])
            self.assertEqual((runs.size, runs.rows), (len(row), rows))
        for size in FAR:
            for text in drawn_words(drawing(size % 97), 10):
                runs = runs_of(Word(text), size)
                wider = wider_runs(runs)
                self.assertEqual(wider.size, size + 1)
                hold_one_form(self, wider)
                self.assertEqual(wider.at(size), size)
                for place in (0, 1, size // 2, size - 1):
                    self.assertEqual(wider.at(place), runs.at(place))


class FarTest(unittest.TestCase):
    def test_words(self):
        draw = drawing(74)
        for size in (*FAR, draw.randint(10 ** 20, MOST), draw.randint(100, 10 ** 5)):
            for text in drawn_words(draw, 40):
                runs = runs_of(Word(text), size)
                self.assertEqual(runs.size, size)
                hold_one_form(self, runs)
                moves = moves_of(text)
                for place in some_places(draw, size):
                    self.assertEqual(runs.at(place), source_of(moves, size, place), (text, size, place))

    def test_taken_back(self):
        draw = drawing(75)
        for size in FAR:
            for text in drawn_words(draw, 20):
                runs = runs_of(Word(text), size)
                back = ~runs
                hold_one_form(self, back)
                self.assertEqual(runs * back, nothing_runs(size))
                self.assertEqual(back * runs, nothing_runs(size))
                self.assertEqual(~back, runs)
                for place in some_places(draw, size)[::7]:
                    self.assertEqual(back.at(runs.at(place)), place)

    def test_products(self):
        draw = drawing(76)
        for size in FAR:
            for first, second in zip(drawn_words(draw, 15, 2), drawn_words(draw, 15, 2)):
                if (first + second).count("turn") < 2:
                    one, other = runs_of(Word(first), size), runs_of(Word(second), size)
                    self.assertEqual(one * other, runs_of(Word(f"{first} then {second}"), size))
                    for place in some_places(draw, size)[::9]:
                        self.assertEqual((one * other).at(place), one.at(other.at(place)))


class ExchangeTest(unittest.TestCase):
    def test_small_sizes(self):
        for size in range(1, 12):
            for x, y in itertools.product(range(-2, size + 3), repeat=2):
                row = list(range(size))
                if x in row and y in row:
                    row[x], row[y] = row[y], row[x]
                self.assertEqual(exchange_runs(size, x, y).rows, rows_of_list(row), (size, x, y))

    def test_far(self):
        for size in FAR:
            for x, y in ((0, size - 1), (size - 1, 0), (size // 2, 3), (5, size // 3), (7, 8), (9, 7)):
                runs = exchange_runs(size, x, y)
                hold_one_form(self, runs)
                for place in {0, 1, 6, 7, 8, 9, x, y, abs(x - 1), abs(y - 1), size // 4, size - 1}:
                    self.assertEqual(runs.at(place), {x: y, y: x}.get(place, place))
            for x, y in ((-1, 0), (0, -1), (size, 0), (0, size), (10 ** 40, 1), (-10 ** 40, 1), (4, 4), (size, size)):
                self.assertEqual(exchange_runs(size, x, y), nothing_runs(size))


class RollTest(unittest.TestCase):
    def test_small_sizes(self):
        for size in range(1, 9):
            for x, y in itertools.product(range(-2, size + 2), repeat=2):
                for c in (None, *range(-9, 10), 10 ** 39 + 7, -10 ** 39 - 7):
                    row = list(range(size))
                    if 0 <= x < y < size:
                        m = y - x + 1
                        for i in range(m):
                            row[x + (i + (m // 2 if c is None else c)) % m] = x + i
                    self.assertEqual(roll_runs(size, x, y, c).rows, rows_of_list(row), (size, x, y, c))

    def test_far(self):
        draw = drawing(77)
        for size in FAR:
            for x, y in ((0, size - 1), (3, size - 2), (size // 2, size - 1), (0, size // 2), (5, 9),
                         (draw.randrange(size // 2), draw.randrange(size // 2, size))):
                m = y - x + 1
                for c in (None, 0, 1, -1, m, -m, m - 1, m + 1, m // 2, 10 ** 39 + 7, -10 ** 39 - 7, draw.randrange(m)):
                    runs = roll_runs(size, x, y, c)
                    hold_one_form(self, runs)
                    ahead = m // 2 if c is None else c
                    for place in {0, 1, x, y, y - 1, size - 1, (x + y) // 2, draw.randrange(size)}:
                        goal = x + (place - x - ahead) % m if x <= place <= y else place
                        self.assertEqual(runs.at(place), goal)

    def test_what_moves_nothing(self):
        for size in FAR:
            for x, y in ((-1, 3), (0, size), (4, 4), (5, 4), (size - 1, 0), (-10 ** 40, 10 ** 40), (size, size + 1)):
                for c in (None, 0, 1, 10 ** 39):
                    self.assertEqual(roll_runs(size, x, y, c), nothing_runs(size))
            for c in (0, size, -size, 10 ** 9 * size):
                self.assertEqual(roll_runs(size, 0, size - 1, c), nothing_runs(size))


class OperatorTest(unittest.TestCase):
    def test_plain_lists(self):
        draw = drawing(78)
        for size in range(1, 61):
            pairs = list(lists_and_runs(draw, (size,), 4))
            for (first, one), (second, other) in zip(pairs, draw.sample(pairs, len(pairs))):
                kept = (one.rows, other.rows)
                product = one * other
                self.assertEqual(product.size, size)
                self.assertEqual(product.rows, rows_of_list(joined(first, second)))
                self.assertEqual(list_of(product), joined(first, second))
                self.assertEqual((~one).rows, rows_of_list(undone(first)))
                self.assertEqual((~one).size, size)
                self.assertEqual((one.rows, other.rows), kept)
                self.assertIs(one == other, first == second)
                self.assertIs(one != other, first != second)
                self.assertTrue(one == runs_of_list(first))
                self.assertFalse(one != runs_of_list(first))

    def test_all_products_of_few_places(self):
        rows = list(itertools.permutations(range(4)))
        for first, second in itertools.product(rows, repeat=2):
            told = runs_of_list(first) * runs_of_list(second)
            self.assertEqual(told.rows, rows_of_list(joined(first, second)))

    def test_sizes_that_differ(self):
        for size, other in ((3, 4), (4, 3), (1, 10 ** 30), (10 ** 30, 10 ** 30 - 1)):
            with self.assertRaises(BadSize) as caught:
                nothing_runs(size) * nothing_runs(other)
            self.assertEqual(caught.exception.size, other)

    def test_equality(self):
        self.assertFalse(nothing_runs(4) == nothing_runs(5))
        self.assertTrue(nothing_runs(4) != nothing_runs(5))
        self.assertTrue(runs_of(Word("turn"), 1) == nothing_runs(1))
        self.assertTrue(roll_runs(MOST, 0, MOST - 1, None) == ~roll_runs(MOST, 0, MOST - 1, None))
        for other in ([0, 1], (0, 1), ((0, 2, 0, 1),), None, 2, "runs", Word("turn")):
            self.assertFalse(nothing_runs(2) == other)
            self.assertTrue(nothing_runs(2) != other)


class RefusedTest(unittest.TestCase):
    def test_sizes_that_are_none(self):
        calls = (nothing_runs, lambda k: runs_of(Word("turn"), k), lambda k: exchange_runs(k, 0, 1),
                 lambda k: exchange_runs(k, -1, -1), lambda k: roll_runs(k, 0, 1, 1),
                 lambda k: roll_runs(k, 5, 1, None))
        for call in calls:
            for size in NO_SIZES:
                assert_raises(self, BadSize, "size", size, call, size)
            for size in (1, MOST):
                self.assertEqual(call(size).size, size)

    def test_places_that_are_none(self):
        for size in (1, 2, 5, 10 ** 30):
            for runs in (nothing_runs(size), runs_of(Word("turn"), size), wider_runs(nothing_runs(size))):
                for place in (-1, runs.size, 10 ** 31, -10 ** 31, *NO_INTEGERS):
                    assert_raises(self, BadPlace, "place", place, runs.at, place)
                self.assertIn(runs.at(runs.size - 1), (0, runs.size - 1))

    def test_rows_that_are_none(self):
        for row, index in (([1], 0), ([0, 0], 1), ([0, 2], 1), ([1, 3, 1], 1), ([-1], 0), ([0, 1, 2, 4, 3, 3], 5)):
            assert_raises(self, BadRow, "index", index, runs_of_list, row)
            assert_raises(self, BadRow, "index", index, runs_of_list, tuple(row))
        for value in NO_INTEGERS:
            assert_raises(self, BadRow, "index", 1, runs_of_list, [0, value, 0])
        for row in ([], (), list(range(1001)), tuple(range(1500))):
            assert_raises(self, BadSize, "size", len(row), runs_of_list, row)
        # What is no rearrangement comes ahead of its size.
        assert_raises(self, BadRow, "index", 1000, runs_of_list, [*range(1000), 0])


class WayTest(unittest.TestCase):
    def test_few_and_many(self):
        for backward, forward in itertools.product((0, *range(96, 105), 300), repeat=2):
            if backward + forward == 0:
                continue
            way = 1 if backward <= 100 else -1 if forward <= 100 else 0
            for parts in (1, 2, 3):
                row = []
                for part in range(parts):
                    many = backward // parts + (backward % parts if part == 0 else 0)
                    row.extend(range(len(row) + many - 1, len(row) - 1, -1))
                row.extend(range(backward, backward + forward))
                told = sum(run[1] for run in rows_of_list(row) if run[3] == -1)
                self.assertEqual(told, backward)
                self.assertEqual(runs_of_list(row).way, way, (backward, forward))

    def test_single_places_go_forward(self):
        row = [place ^ 2 for place in range(400)]
        self.assertEqual(runs_of_list(row).way, 1)
        self.assertEqual(runs_of_list(row[::-1]).way, -1)
        self.assertEqual(runs_of_list(row[:200] + row[:199:-1]).way, 0)
        self.assertEqual(runs_of_list([7 * place % 400 for place in range(400)]).way, 1)
        self.assertEqual(runs_of_list([place ^ 1 for place in range(100)]).way, 1)
        self.assertEqual(runs_of_list([place ^ 1 for place in range(102)]).way, -1)

    def test_words(self):
        for size in (1, 2, 50, 100):
            self.assertEqual(runs_of(Word("turn"), size).way, 1)
        for size in (101, 1000, MOST):
            turn = runs_of(Word("turn"), size)
            self.assertEqual(turn.way, -1)
            self.assertEqual((turn * turn).way, 1)
            self.assertEqual((~turn).way, -1)
            self.assertEqual(runs_of(Word("roll 0 -1 half"), size).way, 1)
            self.assertEqual(wider_runs(turn).way, -1)


if __name__ == "__main__":
    unittest.main()
