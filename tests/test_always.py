"""[32] to [36]: whether programs are right for every n, parts of orders, and the way back to the first order."""

import itertools
import unittest
from math import factorial, gcd
from unittest import mock

from everyorder.always import closing, failing, is_round, parts_at, wrong_at
from everyorder.errors import BadNumber, BadSize, NotClosed, NotWhole
from everyorder.layers import double_far
from everyorder.programs import Program
from everyorder.rings import is_one_ring, rings_of
from everyorder.ringtables import table_of
from everyorder.runs import Runs, exchange_runs, nothing_runs, runs_of, wider_runs
from everyorder.shapes import is_whole, made_by
from everyorder.tells import Double, double
from everyorder.words import Word
from closed import (PLACES, FarLevels, closed_plain, fails_by, fails_late, far_word, last_things, mended_plain,
                    plain_open_at, right_plains, stopped_levels, undone_list)
from helping import NO_INTEGERS, assert_raises
from leveling import FACTORS, Plain, drawing, many_steps_of, plain_of, split_level, step_of
from running import list_of, rings_by_walking
from telling import HALVES, HEAP, STUCK, TURN, WHOLE, WRONG, tell, text_of
from wording import value_of

FAR = (100, 101, 998, 10 ** 6 + 1, 10 ** 15, 10 ** 30 - 1, 10 ** 30)
BESIDE = (0, -1, -10 ** 30, 10 ** 30 + 1, 10 ** 31, *NO_INTEGERS)
OPEN = "period 2 / rest 0 along 1 0 / rest 1 along 1 0"


def triple(told):
    return told and (told.size, told.first, told.again)


def stop_open_at(plain, stop):
    """The least size from two above a stop on that is not closed."""
    return plain_open_at(plain, stop + 2)


class ExampleTest(unittest.TestCase):
    def test_heap(self):
        heap = Program(text_of(HEAP))
        self.assertIsNone(wrong_at(heap))
        self.assertEqual(made_by(heap, 5).at(0), 4)
        self.assertEqual(closing(heap, 5), made_by(heap, 5))
        for n in (2, 3, 5, 7, 99, 101, 10 ** 30 - 1):
            self.assertIs(is_round(heap, n), True)
        self.assertEqual(parts_at(heap, 2), Double(3, 0, 2))
        self.assertIsNone(parts_at(heap, 1))
        self.assertIsNone(parts_at(heap, 3))

    def test_others(self):
        self.assertEqual(wrong_at(Program(text_of(WRONG))), Double(4, 1, 3))
        self.assertIsNone(wrong_at(Program(text_of(TURN))))
        self.assertEqual(wrong_at(Program("period 1\nrest 0 same roll 0 -1 2 to the end")), Double(2, 0, 1))
        halves = Program(text_of(HALVES))
        self.assertEqual(wrong_at(halves), Double(4, 0, 2))
        sizes = failing(halves, 0)
        self.assertEqual((sizes.start, sizes.period, sizes.rests, sizes.early), (14, 2, (0,), ()))


class WrongTest(unittest.TestCase):
    def hold(self, plain, high=64):
        """Hold what wrong_at tells to what plain lists tell up to a size."""
        program = Program(plain.text)
        size = plain_open_at(plain)
        wrong = stopped_levels(plain, 1, high if size is None else size - 1)[1]
        if wrong is None and size is not None:
            assert_raises(self, NotClosed, "size", size, wrong_at, program)
            return "open"
        told = wrong_at(program)
        if wrong is None:
            self.assertTrue(told is None or told.size > high)
        else:
            self.assertIs(type(told), Double)
            self.assertEqual(triple(told), wrong, plain.text)
        return told and told.size

    def test_closed_programs(self):
        draw = drawing(231)
        seen = {}
        for _ in range(150):
            told = self.hold(mended_plain(draw, closed_plain(draw), 5), 40)
            seen[told] = seen.get(told, 0) + 1
        self.assertGreater(len(seen), 3)

    def test_right_programs(self):
        for plain in right_plains():
            self.assertIsNone(self.hold(plain))

    def test_programs_that_are_not_closed(self):
        draw = drawing(232)
        seen = set()
        for _ in range(60):
            rests = draw.choice(right_plains()).rests
            rests = rests * (3 // len(rests) if len(rests) < 3 else 1)
            rests[draw.randrange(len(rests))] = draw.choice(("along 1 0", "along -1 half", "same turn"))
            seen.add(self.hold(mended_plain(draw, Plain(rests, {}), 8)))
        self.assertIn("open", seen)
        self.assertGreater(len(seen), 4)

    def test_two_along_levels_by_turns(self):
        """Heap's family: the classical one, its mirror, and all others."""
        right = set()
        for factor, place in itertools.product(FACTORS, PLACES):
            for move in ("exchange 0 -1", "exchange 1 -1", "exchange 0 -2", "exchange -2 -1", "exchange half -1"):
                plain = plain_of(f"period 2 / rest 0 along {factor} {place} / rest 1 same {move}")
                if self.hold(plain, 30) is None:
                    right.add((f"{factor} {place}", move))
        self.assertTrue({("1 0", "exchange 0 -1"), ("-1 -2", "exchange 0 -1"), ("1 -2", "exchange -2 -1"),
                         ("1 half", "exchange 1 -1")} <= right)

    def test_few_things_by_their_rows(self):
        draw = drawing(233)
        plains = [mended_plain(draw, closed_plain(draw, (3, 4, 5)), 1) for _ in range(15)]
        plains += [closed_plain(draw, (2, 3, 4, 5)) for _ in range(15)] + right_plains()[::3]
        for plain in plains:
            told = wrong_at(Program(plain.text))
            for n in range(2, 7):
                alike = len(set(tell(plain, n)[0])) == factorial(n)
                self.assertIs(alike, told is None or told.size > n)

    def test_far_failures(self):
        """Levels that fail late, by numbers from 9 to 18."""
        draw = drawing(234)
        late = set()
        for number in range(9, 19):
            plain, rest = fails_late(number, draw)
            told = wrong_at(Program(plain.text))
            least = next(k for k in range(14, 200) if k % 6 == rest and gcd(k, number) > 1)
            self.assertEqual(told.size, least)
            self.assertEqual(triple(told), stopped_levels(plain, 1, least)[1])
            late.add(least)
        self.assertGreater(max(size for size in late if size), 60)

    def test_asked_again(self):
        draw = drawing(235)
        for _ in range(25):
            plain = mended_plain(draw, closed_plain(draw), 3)
            program = Program(plain.text)
            told = wrong_at(program)
            self.assertEqual(wrong_at(program), told)
            self.assertEqual(wrong_at(Program(plain.text)), told)
            self.assertEqual((program.text, program), (plain.text, Program(plain.text)))

    def test_all_sizes_at_once(self):
        """The same, if only the sizes to 14 are looked at one by one, where most programs fail."""
        draw = drawing(249)
        late = 0
        plains = [fails_late(number, draw)[0] for number in range(9, 19)]
        for plain in plains + [mended_plain(draw, closed_plain(draw), 4) for _ in range(60)]:
            program = Program(plain.text)
            told = wrong_at(program)
            with mock.patch("everyorder.always.FIRST_SIZES", 14):
                self.assertEqual(wrong_at(program), told, plain.text)
            late += told is not None and told.size > 14
        self.assertGreater(late, 5)

    def test_doubles_of_far_levels(self):
        """The calls of a level that is not whole, if all beneath are, by plain lists."""
        draw = drawing(250)
        seen = {}
        for at in range(60):
            plain = closed_plain(draw)
            if at % 2:
                beneath = draw.choice((f"same exchange {draw.choice(PLACES)} {draw.choice(PLACES)}",
                                       "same exchange 0 -1", "same roll 0 -1 1 to the end"))
                plain = Plain([beneath, f"along {draw.choice(FACTORS)} {draw.choice(PLACES)}"], {})
            program, levels = Program(plain.text), FarLevels(plain)
            for k in (*range(14, 30), 44, 45, 120, 121):
                beneath = levels.doing(k - 1)
                if beneath is None or levels.is_whole(k):
                    continue
                things = last_things(plain, k, beneath)[0]
                again = next(d for d in range(k) if things[d] in things[:d])
                self.assertEqual(triple(double_far(program, k)), (k, things.index(things[again]), again))
                kind = split_level(plain.level(k))[0][0]
                seen[kind, k > 100] = seen.get((kind, k > 100), 0) + 1
        self.assertTrue(all(seen.get(key, 0) > 5 for key in itertools.product(("same", "along"), (True, False))), seen)

    def test_with_double(self):
        """[11] tells the same as far as it goes."""
        draw = drawing(236)
        plains = [mended_plain(draw, closed_plain(draw), 3) for _ in range(40)]
        for plain in (*plains, *right_plains(), *(plain_of(text) for text in (*WHOLE, WRONG, STUCK, HALVES))):
            program = Program(plain.text)
            if plain_open_at(plain) is None:
                told = wrong_at(program)
                self.assertEqual(double(program, 100), told if told is None or told.size <= 100 else None)


class FailingTest(unittest.TestCase):
    def hold(self, plain, rest, sizes):
        program, levels = Program(plain.text), FarLevels(plain)
        told = failing(program, rest)
        self.assertFalse([k for k in range(-3, 14) if k in told])
        for k in sizes:
            self.assertIs(k in told, k % program.period == rest and not levels.is_whole(k), (plain.text, k))
        # No lesser start and no lesser period could be told.
        exceptions = [k for k in range(14, told.start) if (k in told.early) != (k % told.period in told.rests)]
        self.assertEqual(told.start, exceptions[-1] + 1 if exceptions else 14)
        self.assertEqual(told.period % program.period, 0)
        for period in range(program.period, told.period, program.period):
            if told.period % period == 0:
                moved = sorted((k + period) % told.period for k in told.rests)
                self.assertNotEqual(moved, list(told.rests))
        return told

    def test_sizes_to_80(self):
        draw = drawing(237)
        periods, starts = set(), set()
        for _ in range(60):
            plain = closed_plain(draw, range(2, 13))
            for rest in range(len(plain.rests)):
                told = self.hold(plain, rest, range(14, 81) if rest == 0 else range(14, 50))
                periods.add(told.period // len(plain.rests))
                starts.add(told.start)
        self.assertGreater(len(periods), 8)
        self.assertGreater(len(starts), 5)

    def test_far_sizes(self):
        draw = drawing(238)
        for _ in range(40):
            program = Program(closed_plain(draw).text)
            for rest in range(program.period):
                told = failing(program, rest)
                for k in (*(draw.randint(80, 10 ** draw.randint(3, 30)) for _ in range(12)), *FAR):
                    self.assertIs(k in told, k % program.period == rest and not is_whole(program, k))

    def test_along_levels(self):
        """By divisors and by even and odd calls, which are looked for one by one."""
        draw = drawing(239)
        for factor in FACTORS:
            for _ in range(4):
                place = draw.choice(PLACES)
                x, y = draw.choice(PLACES), draw.choice(PLACES)
                beneath = draw.choice((f"same exchange {x} {y}", f"same exchange {x} {y}",
                                       f"same {far_word(draw, 1)} to the end"))
                plain = Plain([beneath, f"along {factor} {place}"], {})
                told = self.hold(plain, 1, range(14, 60))
                for k in (*range(15, 150, 2), 1001, 2003):
                    calls = {}
                    for i in range(k - 1):
                        calls.setdefault((int(factor) * i + value_of(place, k)) % (k - 1), i)
                    fails = len(calls) < k - 1
                    if not fails and "end" not in beneath:
                        pair = value_of(x, k - 1), value_of(y, k - 1)
                        if pair[0] != pair[1] and min(pair) >= 0 and max(pair) < k - 1:
                            fails = (calls[pair[0]] - calls[pair[1]]) % 2 == 1
                    self.assertIs(k in told, fails)

    def test_rolls_to_the_end(self):
        for amount in (*FACTORS, "half"):
            plain = Plain([f"same roll 0 -1 {amount} to the end"], {})
            told = self.hold(plain, 0, range(14, 60))
            for k in (*range(14, 150), *FAR):
                self.assertIs(k in told, gcd(k, k // 2 if amount == "half" else int(amount)) > 1)

    def test_six_rests(self):
        draw = drawing(240)
        for number in range(9, 19):
            plain, rest = fails_by(number, draw)
            told = self.hold(plain, rest, range(14, 120))
            for k in (*range(18, 1000, 6), *(6 * draw.randint(10 ** 20, 10 ** 29) for _ in range(20))):
                self.assertIs(k + rest in told, gcd(k + rest, number) > 1)
            others = [failing(Program(plain.text), other).least for other in range(6) if other != rest]
            self.assertEqual(others, [None] * 5)

    def test_behind_the_sizes_of_runs(self):
        told = failing(Program(text_of(HALVES)), 0)
        self.assertTrue(10 ** 40 in told and 10 ** 40 + 1 not in told)

    def test_refusals(self):
        for text in (HEAP, TURN, HALVES, OPEN):
            program = Program(text_of(text))
            for value in (-1, program.period, 10 ** 30, *NO_INTEGERS):
                assert_raises(self, BadNumber, "number", value, failing, program, value)
            for rest in range(program.period):
                if text == OPEN:
                    assert_raises(self, NotClosed, "size", 14, failing, program, rest)
                else:
                    failing(program, rest)


class PartsTest(unittest.TestCase):
    def hold(self, plain, stop, high):
        program = Program(plain.text)
        size = stop_open_at(plain, stop)
        wrong = stopped_levels(plain, stop, high if size is None else size - 1)[1]
        if wrong is None and size is not None:
            assert_raises(self, NotClosed, "size", size, parts_at, program, stop)
            return "open"
        told = parts_at(program, stop)
        if wrong is None:
            self.assertTrue(told is None or told.size > high)
        else:
            self.assertEqual(triple(told), wrong, (plain.text, stop))
        return told and told.size

    def test_stops_by_rows(self):
        """What the last places hold, by plain calls of the stopped program."""
        draw = drawing(241)
        plains = right_plains()[::2] + [closed_plain(draw, (2, 3, 4, 5, 6)) for _ in range(25)]
        for plain in plains:
            for stop in range(1, 6):
                told = self.hold(plain, stop, 30)
                for n in range(stop + 1, 7):
                    rows = stopped_rows(plain, stop, n)
                    once = len({row[stop:] for row in rows}) == len(rows) == factorial(n) // factorial(stop)
                    self.assertIs(once, told is None or told == "open" or told > n)

    def test_stops_to_20(self):
        draw = drawing(242)
        seen = set()
        for plain in right_plains() + [mended_plain(draw, closed_plain(draw), 2) for _ in range(30)]:
            for stop in range(1, 21):
                seen.add(self.hold(plain, stop, stop + 16))
        self.assertIn(None, seen)
        self.assertGreater(len(seen), 12)

    def test_stops_to_100(self):
        draw = drawing(243)
        for plain in right_plains()[::2] + [closed_plain(draw) for _ in range(3)]:
            for stop in (21, 39, 40, 41, 77, 98, 99, 100):
                self.hold(plain, stop, stop + 8)

    def test_programs_that_are_not_closed(self):
        draw = drawing(244)
        seen = {}
        for _ in range(25):
            rests = draw.choice(right_plains()).rests
            rests = rests * (3 // len(rests) if len(rests) < 3 else 1)
            rests[draw.randrange(len(rests))] = draw.choice(("along 1 0", "along -1 half", "along 2 1"))
            plain = Plain(rests, {})
            for stop in (1, 2, 5, 11, 12, 13, 14, 15, 16, 17, 18, 20, 99, 100):
                told = self.hold(plain, stop, stop + 12)
                seen[told] = seen.get(told, 0) + 1
        self.assertGreater(seen["open"], 20)

    def test_what_stands_on_the_stop_need_not_be_closed(self):
        plain = plain_of("period 1 / rest 0 along 1 0")
        for stop in (13, 14, 15, 99, 100):
            # The along level above the stop is whole; the next one is not closed.
            self.assertEqual(self.hold(plain, stop, stop + 2), "open")
            assert_raises(self, NotClosed, "size", stop + 2, parts_at, Program(plain.text), stop)

    def test_the_stop_1(self):
        draw = drawing(245)
        for _ in range(30):
            program = Program(mended_plain(draw, closed_plain(draw), 3).text)
            self.assertEqual(parts_at(program, 1), wrong_at(program))

    def test_refusals(self):
        for text in (HEAP, WRONG, OPEN):
            program = Program(text_of(text))
            for value in (0, -1, 101, 10 ** 30, *NO_INTEGERS):
                assert_raises(self, BadSize, "size", value, parts_at, program, value)
        self.assertIsNone(parts_at(Program(text_of(TURN)), 1))
        self.assertEqual(parts_at(Program(text_of(HEAP)), 100), Double(*triple_by_lists(HEAP, 100)))


def triple_by_lists(text, stop):
    return stopped_levels(plain_of(text), stop, stop + 10)[1]


def stopped_rows(plain, stop, n):
    """The rows that a stopped program tells of n things, by plain calls."""
    row = list(range(n))
    rows = []

    def call(k):
        if k == stop:
            rows.append(tuple(row))
            return
        for i in range(k):
            call(k - 1)
            if i < many_steps_of(plain.level(k), k):
                row[:k] = [row[place] for place in step_of(plain.level(k), k, i)]

    call(n)
    return rows


class RoundTest(unittest.TestCase):
    def test_by_plain_calls(self):
        draw = drawing(246)
        seen = {True: 0, False: 0}
        for plain in right_plains() + [mended_plain(draw, closed_plain(draw)) for _ in range(25)]:
            program = Program(plain.text)
            doings, wrong = stopped_levels(plain, 1, 36)
            for n in range(1, 37):
                if wrong is not None and wrong[0] <= n:
                    assert_raises(self, NotWhole, "size", wrong[0], closing, program, n)
                    assert_raises(self, NotWhole, "size", wrong[0], is_round, program, n)
                    continue
                told = closing(program, n)
                self.assertIs(type(told), Runs)
                self.assertEqual(list_of(told), undone_list(doings[n]))
                self.assertEqual(told * made_by(program, n), nothing_runs(n))
                moved = sum(place != goal for place, goal in enumerate(doings[n])) == 2
                self.assertIs(is_round(program, n), moved)
                seen[moved] += 1
        self.assertGreater(min(seen.values()), 20)

    def test_far_sizes(self):
        for plain in right_plains():
            program = Program(plain.text)
            for n in FAR:
                told = closing(program, n)
                self.assertEqual(told * made_by(program, n), nothing_runs(n))
                self.assertEqual(made_by(program, n) * told, nothing_runs(n))
                moved = [place for start, length, _, _ in told.rows for place in (start, start + length - 1)
                         if told.at(place) != place]
                is_exchange = bool(moved) and told == exchange_runs(n, moved[0], told.at(moved[0]))
                self.assertIs(is_round(program, n), is_exchange)

    def test_rows_that_are_led_back(self):
        for plain in right_plains():
            for n in range(1, 6):
                _, row = tell(plain, n)
                self.assertEqual([row[place] for place in list_of(closing(Program(plain.text), n))], list(range(n)))

    def test_refusals(self):
        for text in (HEAP, WRONG, STUCK, OPEN):
            program = Program(text_of(text))
            for value in BESIDE:
                assert_raises(self, BadSize, "size", value, closing, program, value)
                assert_raises(self, BadSize, "size", value, is_round, program, value)
            self.assertEqual(closing(program, 1), nothing_runs(1))
            self.assertIs(is_round(program, 1), False)
        for n in (14, 100, 10 ** 30):
            assert_raises(self, NotClosed, "size", 14, closing, Program(text_of(OPEN)), n)
            assert_raises(self, NotClosed, "size", 14, is_round, Program(text_of(OPEN)), n)
            assert_raises(self, NotWhole, "size", 4, closing, Program(text_of(WRONG)), n)
            assert_raises(self, NotWhole, "size", 4, is_round, Program(text_of(WRONG)), n)
        self.assertEqual(closing(Program(text_of(HEAP)), 10 ** 30).size, 10 ** 30)


class WordsTest(unittest.TestCase):
    """[6], [7], [19] to [32]: two words behind each other at neighbouring sizes, told in all ways."""

    def test_one_ring_by_lists_runs_tables_and_programs(self):
        draw = drawing(247)
        seen = set()
        pairs = [("roll 0 -1 2", "roll 0 -1 1"), ("turn", "turn"), ("turn then exchange 0 -1", "turn"),
                 ("roll 0 -1 -1", "roll 0 -1 2"), ("exchange 0 -1", "roll 0 -2 1")]
        for at in range(60):
            upper, lower = pairs[at] if at < len(pairs) else (far_word(draw, 0), far_word(draw, 1))
            end = draw.choice(("", " to the end"))
            for beneath_end in ("", " to the end"):
                program = Program(f"period 2\nrest 0 same {upper}{end}\nrest 1 same {lower}{beneath_end}")
                w, v = Word(upper), None if beneath_end else Word(lower)
                table = None
                if w.has_turn == (v is not None and v.has_turn):
                    table = table_of(w, v)
                for k in (*range(14, 50, 2), 60, 10 ** 15, 10 ** 30):
                    runs = runs_of(w, k) if v is None else wider_runs(~runs_of(v, k - 1)) * runs_of(w, k)
                    told = is_whole(program, k)
                    self.assertIs(told, is_one_ring(runs))
                    if k <= 60:
                        self.assertIs(told, rings_by_walking(list_of(runs)) == [(1, k)])
                    if table is not None:
                        self.assertIs(told, table.at(k) == [(1, k)])
                        self.assertIs(told, rings_of(runs) == [(1, k)])
                    seen.add((told, table is not None, k > 10 ** 14, beneath_end))
        self.assertGreater(len(seen), 12)

    def test_first_sizes(self):
        """The least size that fails is the one that the levels tell one by one."""
        draw = drawing(248)
        for _ in range(30):
            upper, lower = far_word(draw, 0), far_word(draw, 1)
            program = Program(f"period 2\nrest 0 same {upper}\nrest 1 same {lower} to the end")
            told = failing(program, 0)
            least = next((k for k in range(14, 200, 2) if rings_by_walking(Word(upper).at(k)) != [(1, k)]), None)
            self.assertEqual(told.least, least)
            self.assertEqual(split_level(program.level(14).text)[1], False)


if __name__ == "__main__":
    unittest.main()
