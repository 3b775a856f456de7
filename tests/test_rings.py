"""[23], [24]: the rings of rearrangements that are told by runs; [22]: where they are mixed."""

import itertools
import unittest
from math import gcd

from everyorder.errors import BadPlace, Mixed
from everyorder.rings import in_one_ring, is_odd, is_one_ring, ring_at, ring_either_way, rings_of
from everyorder.runs import exchange_runs, nothing_runs, roll_runs, runs_of, runs_of_list, wider_runs
from everyorder.words import Word
from helping import NO_INTEGERS, assert_raises
from leveling import drawing
from running import FAR, MOST, drawn_blocks, drawn_words, list_of, moves_of, ring_of, rings_by_walking, some_places
from wording import value_of

TURN_WORDS = ("turn", "turn then exchange 0 1", "roll 0 -1 1 then turn", "turn then roll 0 -1 half",
              "exchange half -1 then turn then roll 1 -2 3", "roll 2 half -1 then roll half -3 4 then turn",
              "turn then exchange 0 -1 then exchange 1 half then roll 0 3 1")


def is_odd_by_pairs(row):
    return sum(row[i] > row[j] for i in range(len(row)) for j in range(i + 1, len(row))) % 2 == 1


def is_odd_by_moves(text, size):
    """Whether a word makes an odd number of exchanges, move by move."""
    odd = 0
    for move in moves_of(text):
        if move[0] == "turn":
            odd += size * (size - 1) // 2
            continue
        x, y = value_of(move[1], size), value_of(move[2], size)
        if not (0 <= x < size and 0 <= y < size):
            continue
        if move[0] == "exchange":
            odd += x != y
        elif x < y:
            m = y - x + 1
            # One place on is m - 1 exchanges of neighbours.
            odd += (m - 1) * (m // 2 if move[3] == "half" else int(move[3]))
    return odd % 2 == 1


def check_rings(test, runs):
    """Hold that all places are in the rings that are told; return these."""
    told = rings_of(runs)
    test.assertIs(type(told), list)
    for pair in told:
        test.assertIs(type(pair), tuple)
        test.assertEqual({type(part) for part in pair}, {int})
        test.assertGreater(min(pair), 0)
    test.assertEqual([places for _, places in told], sorted({places for _, places in told}))
    test.assertEqual(sum(many * places for many, places in told), runs.size)
    return told


class ExampleTest(unittest.TestCase):
    def test_examples_by_hand(self):
        self.assertEqual(rings_of(roll_runs(10, 0, 9, 4)), [(2, 5)])
        self.assertEqual(rings_of(roll_runs(10 ** 30, 0, 10 ** 30 - 1, 6)), [(2, 5 * 10 ** 29)])
        self.assertEqual(rings_of(exchange_runs(5, 0, 3)), [(3, 1), (1, 2)])
        self.assertEqual(ring_at(roll_runs(9, 0, 5, 2), 4), 3)
        self.assertIs(is_one_ring(runs_of(Word("turn"), 2)), True)
        self.assertIs(is_odd(runs_of(Word("turn"), 4)), False)
        assert_mixed(self, rings_of, runs_of(Word("turn"), 10 ** 30))
        self.assertIs(is_one_ring(runs_of(Word("turn"), 10 ** 30)), False)


def assert_mixed(test, call, *values):
    with test.assertRaises(Mixed) as caught:
        call(*values)
    test.assertIs(type(caught.exception), Mixed)


class WalkingTest(unittest.TestCase):
    def hold(self, draw, row, runs):
        """Hold all that is told of the rings of a list."""
        rings = rings_by_walking(row)
        self.assertEqual(check_rings(self, runs), rings)
        self.assertIs(is_one_ring(runs), len(rings) == 1 and rings[0][0] == 1)
        for _ in range(3):
            one, other = draw.randrange(len(row)), draw.randrange(len(row))
            ring = ring_of(row, one)
            self.assertEqual(ring_at(runs, one), len(ring))
            self.assertIs(in_one_ring(runs, one, other), other in ring)
            self.assertIs(in_one_ring(runs, one, draw.choice(ring)), True)
            self.assertIs(in_one_ring(runs, one, one), True)

    def test_words(self):
        draw = drawing(81)
        for size in range(1, 91):
            for text in drawn_words(draw, 10):
                row = Word(text).at(size)
                self.hold(draw, row, runs_of(Word(text), size))

    def test_blocks(self):
        draw = drawing(82)
        for size in range(1, 91):
            for _ in range(8):
                row = drawn_blocks(draw, size)
                self.hold(draw, row, runs_of_list(row))

    def test_all_lists_of_few_places(self):
        draw = drawing(83)
        for size in range(1, 7):
            for row in itertools.permutations(range(size)):
                self.hold(draw, row, runs_of_list(row))

    def test_mixed_lists(self):
        draw = drawing(84)
        for size in (90, 300, 1000):
            row = list(range(size))
            draw.shuffle(row)
            self.hold(draw, row, runs_of_list(row))
            ring = list(range(size))
            # One ring of all places in a drawn order.
            for place, goal in zip(row, row[1:] + row[:1]):
                ring[place] = goal
            self.hold(draw, ring, runs_of_list(ring))

    def test_products(self):
        draw = drawing(85)
        for size in (*range(2, 90, 7), 150, 400):
            for _ in range(8):
                runs = nothing_runs(size)
                for text in drawn_words(draw, 3):
                    if "turn" not in text:
                        runs = runs * runs_of(Word(text), size)
                self.hold(draw, list_of(runs), runs)
                self.assertEqual(rings_of(~runs), rings_of(runs))


class OddTest(unittest.TestCase):
    def test_by_pairs(self):
        draw = drawing(86)
        for size in (*range(1, 40), 130, 231):
            for text in drawn_words(draw, 4):
                self.assertIs(is_odd(runs_of(Word(text), size)), is_odd_by_pairs(Word(text).at(size)))
            for row in (drawn_blocks(draw, size), draw.sample(range(size), size), list(range(size))[::-1]):
                self.assertIs(is_odd(runs_of_list(row)), is_odd_by_pairs(row))

    def test_by_moves(self):
        draw = drawing(87)
        for size in (*FAR, *range(101, 125), draw.randint(10 ** 20, MOST)):
            for text in drawn_words(draw, 25):
                runs = runs_of(Word(text), size)
                self.assertIs(is_odd(runs), is_odd_by_moves(text, size), (text, size))
                self.assertIs(is_odd(~runs), is_odd(runs))
                self.assertIs(is_odd(wider_runs(runs)), is_odd(runs))

    def test_products(self):
        draw = drawing(88)
        for size in (7, 60, 150, 151, *FAR):
            for one, other in zip(drawn_words(draw, 12), drawn_words(draw, 12)):
                first, second = runs_of(Word(one), size), runs_of(Word(other), size)
                self.assertIs(is_odd(first * second), is_odd(first) != is_odd(second))

    def test_mixed_ones_too(self):
        row = [*range(200, -1, -1), *range(201, 500)]
        self.assertEqual(runs_of_list(row).way, 0)
        self.assertIs(is_odd(runs_of_list(row)), is_odd_by_pairs(row))


class BlocksTest(unittest.TestCase):
    def test_blocks_side_by_side(self):
        draw = drawing(89)
        for _ in range(150):
            lengths = [draw.choice((draw.randint(1, 40), draw.randint(1, 2 * 10 ** 29), 12 * draw.randint(1, 10 ** 9)))
                       for _ in range(draw.randint(1, 5))]
            size = sum(lengths)
            runs = nothing_runs(size)
            many = {}
            blocks = []
            start = 0
            for length in lengths:
                ahead = draw.choice((0, 1, 6, draw.randrange(length), length // 3, length // 2 + 1))
                runs = runs * roll_runs(size, start, start + length - 1, ahead)
                rings = gcd(length, ahead % length)
                many[length // rings] = many.get(length // rings, 0) + rings
                blocks.append((start, rings, length // rings))
                start += length
            self.assertEqual(check_rings(self, runs), [(many[places], places) for places in sorted(many)])
            self.assertEqual(rings_of(~runs), rings_of(runs))
            self.assertIs(is_one_ring(runs), many == {size: 1})
            for (start, rings, places), length in zip(blocks, lengths):
                for _ in range(2):
                    one, other = draw.randrange(length), draw.randrange(length)
                    self.assertEqual(ring_at(runs, start + one), places)
                    self.assertIs(in_one_ring(runs, start + one, start + other), (one - other) % rings == 0)
                    self.assertIs(in_one_ring(runs, start + one, start + one % rings), True)
                self.assertIs(in_one_ring(runs, start, (start + length) % size), len(blocks) == 1)


class FarWordsTest(unittest.TestCase):
    def test_words(self):
        draw = drawing(90)
        for size in (*FAR, draw.randint(10 ** 25, MOST)):
            for text in drawn_words(draw, 30):
                if "turn" in text:
                    continue
                runs = runs_of(Word(text), size)
                told = check_rings(self, runs)
                self.assertEqual(rings_of(~runs), told)
                self.assertIs(is_one_ring(runs), told == [(1, size)])
                odd = sum(many * (places - 1) for many, places in told) % 2 == 1
                self.assertIs(is_odd(runs), odd)
                for place in some_places(draw, size)[::30]:
                    self.assertIn(ring_at(runs, place), [places for _, places in told])
                    self.assertIs(in_one_ring(runs, place, runs.at(place)), True)

    def test_many_drawn_rolls(self):
        draw = drawing(91)
        for _ in range(20):
            runs = nothing_runs(MOST)
            for _ in range(6):
                x, y = draw.randrange(MOST // 2), draw.randrange(MOST // 2, MOST)
                runs = runs * roll_runs(MOST, x, y, draw.randrange(MOST))
            told = check_rings(self, runs)
            self.assertEqual(rings_of(~runs), told)
            self.assertEqual(sum(many * (places - 1) for many, places in told) % 2 == 1, is_odd(runs))

    def test_places_of_a_ring_that_can_be_walked(self):
        draw = drawing(92)
        size = 6 * 10 ** 29
        runs = roll_runs(size, 0, size - 1, size // 6) * exchange_runs(size, 5, 17) * exchange_runs(size, 3, size - 3)
        for place in (5, 17, 3, size - 3, 0, draw.randrange(size), size // 6 + 5):
            ring = [place]
            while runs.at(ring[-1]) != place:
                ring.append(runs.at(ring[-1]))
            self.assertEqual(ring_at(runs, place), len(ring))
            for other in (5, 17, 3, size - 3, 0, size // 2 + 17):
                self.assertIs(in_one_ring(runs, place, other), other in ring)


class TurnTest(unittest.TestCase):
    def test_one_turn_by_walking(self):
        seen = set()
        for text in TURN_WORDS:
            for size in range(2, 261):
                told = is_one_ring(runs_of(Word(text), size))
                self.assertIs(told, rings_by_walking(Word(text).at(size)) == [(1, size)], (text, size))
                seen.add((told, runs_of(Word(text), size).way))
        self.assertTrue({(True, 1), (False, 1), (False, -1)} <= seen)

    def test_blocks_that_are_turned(self):
        draw = drawing(93)
        found = {}
        for size in range(101, 261):
            for _ in range(30 if size % 2 else 70):
                cuts = [0, *sorted(draw.sample(range(1, size), draw.randint(2, 5))), size]
                blocks = [list(range(low, high))[::-1] for low, high in zip(cuts, cuts[1:])]
                draw.shuffle(blocks)
                row = [place for block in blocks for place in block]
                if draw.random() < 0.7:
                    # A few places go forward.
                    one, other = draw.randrange(size), draw.randrange(size)
                    row[one], row[other] = row[other], row[one]
                runs = runs_of_list(row)
                if runs.way == -1:
                    told = is_one_ring(runs)
                    self.assertIs(told, rings_by_walking(row) == [(1, size)])
                    found[(told, size % 2)] = found.get((told, size % 2), 0) + 1
        for kind in itertools.product((True, False), (0, 1)):
            self.assertGreater(found.get(kind, 0), 0, kind)

    def test_the_ring_of_a_place(self):
        """What is told of runs that go either way, as wrong_at asks for it."""
        draw = drawing(94)
        ways = set()
        for text in TURN_WORDS + ("roll 0 -1 3", "roll 1 half 2 then exchange 0 -1"):
            for size in (*range(2, 30), *range(99, 261, 7)):
                row = Word(text).at(size)
                runs = runs_of(Word(text), size)
                for place in {0, size // 2, size - 1, draw.randrange(size)}:
                    self.assertEqual(ring_either_way(runs, place), len(ring_of(row, place)), (text, size, place))
                ways.add((runs.way, size % 2))
        self.assertEqual(len(ways), 4)
        self.assertEqual([ring_either_way(runs_of(Word("turn"), MOST), place) for place in (0, 7, MOST - 1)], [2, 2, 2])
        self.assertEqual(ring_either_way(runs_of(Word("turn"), MOST - 1), MOST // 2 - 1), 1)

    def test_far(self):
        for text in TURN_WORDS:
            for size in (999, 10 ** 6, 10 ** 30 - 1, 10 ** 30):
                self.assertIs(is_one_ring(runs_of(Word(text), size)), False)

    def test_two_words_with_a_turn(self):
        for one, other in itertools.product(TURN_WORDS, repeat=2):
            for size in (5, 40, 151, 260):
                runs = runs_of(Word(one), size) * runs_of(Word(other), size)
                rings = rings_by_walking(list_of(runs))
                self.assertEqual(check_rings(self, runs), rings)
                self.assertIs(is_one_ring(runs), rings == [(1, size)])
            runs = runs_of(Word(one), MOST) * runs_of(Word(other), MOST)
            self.assertEqual(rings_of(~runs), check_rings(self, runs))


class MixedTest(unittest.TestCase):
    def lists(self):
        for backward in (0, *range(96, 105)):
            for forward in (0, *range(96, 105)):
                if backward + forward:
                    row = [*range(backward - 1, -1, -1), *range(backward, backward + forward)]
                    yield backward, forward, row

    def test_which_questions_are_mixed(self):
        for backward, forward, row in self.lists():
            runs = runs_of_list(row)
            if backward <= 100:
                self.assertEqual(rings_of(runs), rings_by_walking(row))
                self.assertEqual(ring_at(runs, 0), len(ring_of(row, 0)))
                self.assertIs(in_one_ring(runs, 0, len(row) - 1), len(row) - 1 in ring_of(row, 0))
            else:
                assert_mixed(self, rings_of, runs)
                assert_mixed(self, ring_at, runs, 0)
                assert_mixed(self, in_one_ring, runs, 0, 1)
                assert_mixed(self, in_one_ring, runs, 5, 5)
            self.assertIs(is_odd(runs), is_odd_by_pairs(row))
            if backward > 100 and forward > 100:
                assert_mixed(self, is_one_ring, runs)
            else:
                self.assertIs(is_one_ring(runs), rings_by_walking(row) == [(1, len(row))])

    def test_places_ahead_of_mixed(self):
        for size in (1, 4, 99, 104, 300, MOST):
            for runs in (nothing_runs(size), runs_of(Word("turn"), size)):
                for value in (-1, size, 10 ** 31, *NO_INTEGERS):
                    assert_raises(self, BadPlace, "place", value, ring_at, runs, value)
                    assert_raises(self, BadPlace, "place", value, in_one_ring, runs, value, -2)
                    assert_raises(self, BadPlace, "place", value, in_one_ring, runs, size - 1, value)
        turn = runs_of(Word("turn"), 101)
        assert_mixed(self, ring_at, turn, 100)
        assert_mixed(self, in_one_ring, turn, 0, 100)


class NewTest(unittest.TestCase):
    def test_rings_are_new(self):
        runs = roll_runs(10, 0, 9, 4)
        told = rings_of(runs)
        told.clear()
        self.assertEqual(rings_of(runs), [(2, 5)])
        self.assertEqual(runs, roll_runs(10, 0, 9, 4))


if __name__ == "__main__":
    unittest.main()
