"""[28] to [31]: closed programs, what their levels do at sizes of any kind, and whether a level is whole."""

import itertools
import unittest

from everyorder.errors import BadSize, NotClosed, NotWhole
from everyorder.programs import Program
from everyorder.runs import Runs, exchange_runs, nothing_runs, runs_of
from everyorder.shapes import is_whole, made_by, open_at
from everyorder.tells import does, double, lasts
from everyorder.words import Word
from closed import (FarLevels, closed_plain, far_rest, mended_plain, plain_open_at, right_plains, stopped_levels,
                    undone_list)
from helping import NO_INTEGERS, assert_raises
from leveling import Plain, drawing, drawn_plain, plain_of, split_level
from running import hold_one_form, list_of
from telling import HALVES, HEAP, STUCK, TURN, WHOLE, WRONG, text_of

FAR = (100, 101, 998, 10 ** 6 + 1, 10 ** 15, 10 ** 30 - 1, 10 ** 30)
BESIDE = (0, -1, -10 ** 30, 10 ** 30 + 1, 10 ** 31, *NO_INTEGERS)


def outcome(call, *values):
    """What a call returns, or the error that it raises with its size."""
    try:
        return call(*values)
    except (BadSize, NotClosed, NotWhole) as error:
        return type(error), error.size


class ExampleTest(unittest.TestCase):
    def test_examples_by_hand(self):
        heap = Program(text_of(HEAP))
        self.assertEqual(made_by(heap, 5).at(0), 4)
        self.assertIs(is_whole(heap, 10 ** 30), True)
        self.assertEqual(open_at(Program(text_of("period 2 / rest 0 along 1 0 / rest 1 along 1 0"))), 14)


class OpenTest(unittest.TestCase):
    def test_drawn_programs(self):
        draw = drawing(211)
        seen = {}
        for _ in range(1500):
            kinds = [draw.choice(("same", "along", "along")) for _ in range(draw.randint(1, 6))]
            rests = [far_rest(draw, kind) for kind in kinds]
            for rest, kind in enumerate(kinds):
                if kind == "along" and draw.random() < 0.7:
                    rests[rest - 1] = draw.choice(("same exchange 0 -1", "same exchange half 9", "same turn to the end",
                                                   "same roll 0 -1 2 to the end"))
            plain = Plain(rests, drawn_plain(draw).singles)
            told = open_at(Program(plain.text))
            self.assertEqual(told, plain_open_at(plain))
            self.assertIn(type(told), (int, type(None)))
            seen[told] = seen.get(told, 0) + 1
        self.assertTrue(all(seen.get(size, 0) > 5 for size in (None, 14, 15, 16, 17, 18, 19)), seen)

    def test_what_an_along_level_stands_on(self):
        for beneath, is_closed in (("same exchange 0 0", True), ("same exchange 9 half-9", True), ("same turn", False),
                                   ("same exchange 0 1 to the end", True), ("same roll 0 -1 1", False),
                                   ("same exchange 0 1 then exchange 0 1", False), ("same turn to the end", True),
                                   ("same exchange 0 1 then turn", False), ("along 1 0", False),
                                   ("same roll 0 1 1", False), ("along 1 0 to the end", False),
                                   ("same roll 0 -1 1 then turn to the end", True)):
            for first in (0, 1):
                rests = ["along 1 0", beneath] if first == 0 else [beneath, "along 1 0"]
                told = open_at(Program(Plain(rests, {}).text))
                self.assertEqual(told, None if is_closed else 14 + first if beneath[:4] == "same" else 14)

    def test_single_levels_are_always_closed(self):
        program = Program("period 1\nrest 0 same turn")
        for size in range(2, 13):
            program = program.with_level(size, "along 2 3")
        self.assertIsNone(open_at(program))


class WholeTest(unittest.TestCase):
    def test_far_levels(self):
        draw = drawing(212)
        seen = {}
        for _ in range(110):
            plain = closed_plain(draw, range(2, 13))
            program, levels = Program(plain.text), FarLevels(plain)
            for k in (*range(2, 45), 60, 61, 80, 81):
                told = is_whole(program, k)
                self.assertIs(told, levels.is_whole(k), (plain.text, k))
                kinds = tuple(split_level(plain.level(size))[0][0] for size in (k, k - 1)) if k > 13 else "listed"
                seen[kinds, told] = seen.get((kinds, told), 0) + 1
        self.assertTrue(all(seen.get(key, 0) > 20 for key in itertools.product(
            ("listed", ("same", "same"), ("same", "along"), ("along", "same")), (True, False))), seen)

    def test_words_of_four_moves_and_of_many_halves(self):
        draw = drawing(213)
        for _ in range(25):
            plain = drawn_plain(draw)
            program, levels = Program(plain.text), FarLevels(plain)
            size = plain_open_at(plain)
            self.assertEqual(open_at(program), size)
            for k in (*range(2, 25), 40, 55):
                if size is not None and k >= size:
                    assert_raises(self, NotClosed, "size", size, is_whole, program, k)
                else:
                    self.assertIs(is_whole(program, k), levels.is_whole(k), (plain.text, k))

    def test_to_13_by_the_last_things(self):
        draw = drawing(214)
        for text in (*WHOLE, WRONG, STUCK, HALVES, *(drawn_plain(draw).text for _ in range(25))):
            program = Program(text_of(text))
            for k in range(2, 14):
                self.assertIs(is_whole(program, k), len(set(lasts(program, k))) == k)

    def test_level_13_does_what_it_does(self):
        """At 14 an along level of size 13 stands on all levels beneath it, as they are."""
        draw = drawing(215)
        seen = {}
        for _ in range(60):
            plain = Plain(["same roll 0 -1 1", far_rest(draw, "along")], drawn_plain(draw).singles)
            plain.rests[0] = draw.choice(("same roll 0 -1 1 to the end", "same exchange 0 -1", "same exchange 1 2"))
            told = is_whole(Program(plain.text), 14)
            self.assertIs(told, FarLevels(plain).is_whole(14))
            seen[told] = seen.get(told, 0) + 1
        self.assertGreater(min(seen[True], seen[False]), 0)

    def test_right_programs(self):
        for plain in right_plains():
            program = Program(plain.text)
            for k in (*range(2, 40), *FAR):
                self.assertIs(is_whole(program, k), True)

    def test_asked_again(self):
        draw = drawing(216)
        for _ in range(20):
            plain = closed_plain(draw)
            program = Program(plain.text)
            sizes = (90, 14, 10 ** 30, 3, 15, 10 ** 30 - 1)
            told = [is_whole(program, k) for k in sizes]
            self.assertEqual([is_whole(program, k) for k in sizes], told)
            self.assertEqual([is_whole(Program(plain.text), k) for k in reversed(sizes)], told[::-1])
            self.assertEqual((program.text, program), (plain.text, Program(plain.text)))


class MadeTest(unittest.TestCase):
    def hold(self, plain, sizes):
        """Hold what made_by tells to what plain lists tell."""
        program = Program(plain.text)
        doings, wrong = stopped_levels(plain, 1, max(sizes))
        for k in sizes:
            size = plain_open_at(plain)
            if size is not None and size <= k:
                assert_raises(self, NotClosed, "size", size, made_by, program, k)
            elif wrong is not None and wrong[0] <= k:
                assert_raises(self, NotWhole, "size", wrong[0], made_by, program, k)
            else:
                told = made_by(program, k)
                self.assertIs(type(told), Runs)
                self.assertEqual((told.size, list_of(told)), (k, doings[k]))
                hold_one_form(self, told)
        return wrong

    def test_sizes_to_35(self):
        draw = drawing(217)
        ends = []
        for _ in range(60):
            wrong = self.hold(mended_plain(draw, closed_plain(draw)), range(1, 36))
            ends.append(wrong and wrong[0])
        self.assertGreater(len(set(ends)), 2)

    def test_right_programs(self):
        draw = drawing(218)
        for plain in right_plains():
            self.hold(plain, (*range(1, 20), 34, 35, 41, 44))
            other = mended_plain(draw, Plain(plain.rests, {size: f"list {' '.join('0' * (size - 1))}"
                                                           for size in draw.sample(range(2, 13), 4)}))
            self.hold(other, (*range(1, 20), 34, 35))

    def test_programs_that_are_not_closed(self):
        draw = drawing(219)
        seen = set()
        for _ in range(40):
            rests = list(draw.choice((("same turn",), ("along 1 0", "same exchange 0 -1"),
                                      ("same roll 0 -1 1 to the end", "along 1 0")))) * draw.choice((1, 2))
            rests = rests * (3 // len(rests) if len(rests) < 3 else 1)
            rests[draw.randrange(len(rests))] = draw.choice(("along 1 0", "along 2 3", "same turn"))
            plain = mended_plain(draw, Plain(rests, {}))
            self.hold(plain, range(1, 21))
            seen.add(plain_open_at(plain))
        self.assertGreater(len(seen), 2)

    def test_far_sizes_of_same_levels(self):
        for plain in right_plains():
            program = Program(plain.text)
            for k in FAR:
                parts, to_end = split_level(plain.level(k))
                if parts[0] == "same":
                    told = nothing_runs(k) if to_end else ~runs_of(Word(" ".join(parts[1:])), k)
                    self.assertEqual(made_by(program, k), told)

    def test_far_sizes_of_along_levels(self):
        """Of programs that are known: what the level does is told by hand."""
        heap = Program(text_of(HEAP))
        rolls = Program("period 2\nrest 0 same roll 0 -1 1 to the end\nrest 1 along 1 0")
        ends = Program("period 2\nrest 0 along 1 -3 to the end\nrest 1 same roll 0 -1 1 to the end")
        for k in FAR:
            if k % 2 == 0:
                told = made_by(heap, k)
                self.assertEqual([told.at(place) for place in (0, 1, k - 4, k - 3, k - 2, k - 1)],
                                 [stretched(heap, k, place) for place in (0, 1, k - 4, k - 3, k - 2, k - 1)])
                self.assertEqual([made_by(ends, k).at(place) for place in (0, 1, 5, k - 2, k - 1)],
                                 [k - 2, 0, 4, k - 3, k - 1])
            else:
                self.assertEqual(made_by(heap, k), exchange_runs(k, 0, k - 1))
                self.assertEqual([made_by(rolls, k).at(place) for place in (0, 1, 2, 5, k - 2, k - 1)],
                                 [k - 1, 0, 1, 4, k - 3, k - 2])


def stretched(program, k, place):
    """The place that the level of an even size from 44 on leads to a place, told by what it does at 44."""
    row = does(program, 44)
    near = place if place < 22 else place - k + 44
    goal = row[near]
    return goal if goal < 22 else goal + k - 44


class ListTest(unittest.TestCase):
    def test_what_does_tells(self):
        """As long as all levels are whole, made_by is what does tells."""
        draw = drawing(220)
        plains = [mended_plain(draw, closed_plain(draw)) for _ in range(25)]
        for plain in (*plains, *right_plains()):
            program = Program(plain.text)
            for k in (1, 2, 7, 12, 13, 14, 15, 16, 17, 40, 41, 100):
                if double(program, k) is None:
                    self.assertEqual(list_of(made_by(program, k)), does(program, k))
                else:
                    assert_raises(self, NotWhole, "size", double(program, k).size, made_by, program, k)


class RefusalTest(unittest.TestCase):
    programs = (HEAP, WRONG, STUCK, TURN, "period 2 / rest 0 along 1 0 / rest 1 along 1 0",
                "period 3 / rest 0 same turn / rest 1 same turn / rest 2 along 3 half")

    def test_bad_sizes_ahead_of_all(self):
        for text in self.programs:
            program = Program(text_of(text))
            for value in BESIDE:
                assert_raises(self, BadSize, "size", value, made_by, program, value)
                assert_raises(self, BadSize, "size", value, is_whole, program, value)
            assert_raises(self, BadSize, "size", 1, is_whole, program, 1)
            self.assertEqual(made_by(program, 1), nothing_runs(1))
            self.assertIs(is_whole(program, 2), True)

    def test_not_closed_ahead_of_not_whole(self):
        draw = drawing(221)
        for text in self.programs:
            program = Program(text_of(text))
            size = plain_open_at(plain_of(text))
            wrong = double(program, 40)
            told = {k: outcome(made_by, program, k) for k in (*range(2, 30), *FAR)}
            for k, what in told.items():
                if size is not None and k >= size:
                    self.assertEqual(what, (NotClosed, size))
                    self.assertEqual(outcome(is_whole, program, k), (NotClosed, size))
                elif wrong is not None and k >= wrong.size:
                    self.assertEqual(what, (NotWhole, wrong.size))
                else:
                    self.assertIs(type(what), Runs)
            # Behind refusals all is as before.
            for k in draw.sample(list(told), 10):
                self.assertEqual(outcome(made_by, program, k), told[k])

    def test_bounds(self):
        for plain in right_plains():
            program = Program(plain.text)
            for k in (1, 2, 13, 14, 10 ** 30):
                self.assertEqual(made_by(program, k).size, k)
            for k in (2, 13, 14, 10 ** 30):
                self.assertIs(is_whole(program, k), True)

    def test_undone_list(self):
        self.assertEqual(undone_list([2, 0, 1]), [1, 2, 0])


if __name__ == "__main__":
    unittest.main()
