"""Programs that are asked again, with one n and with several n by turns: the same answers, worked out once."""

import itertools
import unittest
from math import factorial
from unittest import mock

from everyorder import orders, tells, times, towers
from everyorder.errors import EveryError
from everyorder.programs import Program
from everyorder.stages import stage_of
from closed import closed_plain
from leveling import drawing, drawn_plain, plain_of
from telling import HALVES, HEAP, STUCK, TURN, WHOLE, WRONG, levels_told


def some_plains(seed, many):
    draw = drawing(seed)
    return [plain_of(text) for text in (*WHOLE, WRONG, STUCK, HALVES)] + [
        drawn_plain(draw) if at % 2 else closed_plain(draw) for at in range(many)]


def outcome(call, program, values):
    """What a call returns, or the error that it raises with what this keeps."""
    try:
        told = call(program, *values)
        return next(told) if call is orders.told_from else told
    except EveryError as error:
        return type(error), vars(error)


def some_calls(draw, n):
    """Calls of all functions, with values that are right for n things."""
    last = factorial(n) - 1
    row = list(range(n))
    draw.shuffle(row)
    place, thing = draw.randrange(n), draw.randrange(n)
    yield tells.double, (n,)
    yield tells.twice, (n,)
    yield tells.does, (n,)
    yield orders.order, (n, draw.randint(0, last))
    yield orders.number, (n, row)
    yield orders.numbers, (n, tuple(row))
    yield orders.steps, (n, draw.randint(1, last + 1))
    yield orders.told_from, (n, draw.randint(0, last))
    yield times.count_at, (n, place, thing, draw.randint(0, last + 1))
    yield times.next_at, (n, place, thing, draw.randint(0, last))
    yield times.nth_at, (n, place, thing, draw.randrange(factorial(n - 1)))
    if n > 1:
        yield tells.lasts, (n,)
        yield tells.before, (n, draw.randrange(n))
        yield times.count_left, (n, *draw.sample(range(n), 2), draw.randint(0, last + 1))


class AgainTest(unittest.TestCase):
    def test_by_turns_and_anew(self):
        """A program that has been asked much tells what one tells that was only just read."""
        draw = drawing(361)
        for plain in some_plains(362, 16):
            program = Program(plain.text)
            told = []
            for n in (7, 2, 40, 13, 1, 14, 40, 3, 25):
                for call, values in some_calls(draw, n):
                    before = repr(values)
                    told.append((call, values, outcome(call, program, values)))
                    self.assertEqual(repr(values), before)
            draw.shuffle(told)
            for call, values, answer in told:
                self.assertEqual(outcome(call, program, values), answer)
            for call, values, answer in told[:40]:
                self.assertEqual(outcome(call, Program(plain.text), values), answer)
            self.assertEqual((program.text, program), (plain.text, Program(plain.text)))
            self.assertEqual((program.rests, program.sizes), (Program(plain.text).rests, Program(plain.text).sizes))

    def test_a_hundred_things(self):
        draw = drawing(363)
        for text in (HEAP, TURN, WRONG, HALVES):
            program = Program(plain_of(text).text)
            for n in (100, 60, 100, 99):
                for call, values in some_calls(draw, n):
                    self.assertEqual(outcome(call, program, values), outcome(call, Program(program.text), values))

    def test_what_is_told_is_new(self):
        for text in (HEAP, WHOLE[5], STUCK):
            program = Program(plain_of(text).text)
            for call in (lambda: tells.does(program, 6), lambda: tells.before(program, 6, 3),
                         lambda: orders.order(program, 6, 100), lambda: next(orders.told_from(program, 6, 7))):
                told = call()
                kept = list(told)
                told.reverse()
                told.append(7)
                self.assertEqual(call(), kept)

    def test_refusals_change_nothing(self):
        program = Program(plain_of(STUCK).text)
        for n in (100, 3, 101, 0, 40):
            for call in (orders.number, orders.numbers):
                self.assertEqual(outcome(call, program, (n, [0])), outcome(call, Program(program.text), (n, [0])))
        self.assertEqual(tells.does(program, 30), levels_told(plain_of(STUCK), 30)[30][1])

    def test_programs_that_are_made_from_others(self):
        """A program that is made from one that has been asked is asked for itself."""
        draw = drawing(364)
        for plain in some_plains(365, 8):
            program = Program(plain.text)
            tells.does(program, 20)
            for other in (program.with_level(3, "list 0 0"), program.with_rest(0, "same turn")):
                fresh = Program(other.text)
                for n in (4, 12, 20):
                    for call, values in some_calls(draw, n):
                        self.assertEqual(outcome(call, other, values), outcome(call, fresh, values))
            self.assertEqual(tells.does(program, 20), tells.does(Program(plain.text), 20))


class OnceTest(unittest.TestCase):
    def count(self, program, calls):
        """How many levels are worked out while the calls are done."""
        with mock.patch.object(towers, "stage_of", side_effect=stage_of) as worked:
            for call, values in calls:
                outcome(call, program, values)
        return worked.call_count

    def test_each_level_is_worked_out_once(self):
        draw = drawing(366)
        for text in (HEAP, TURN, HALVES, WHOLE[4]):
            program = Program(plain_of(text).text)
            calls = [(tells.before, (100, d)) for d in range(100)]
            self.assertEqual(self.count(program, calls), 99)
            again = [pair for n in (100, 50, 7, 99) for pair in some_calls(draw, n)]
            self.assertEqual(self.count(program, calls + again), 0)

    def test_no_more_levels_than_are_asked_for(self):
        for sizes in itertools.permutations((5, 12, 30)):
            program = Program(plain_of(HEAP).text)
            done = [self.count(program, [(tells.does, (n,)), (orders.order, (n, 1))]) for n in sizes]
            self.assertEqual(sum(done), 29)
            self.assertEqual(done[0], sizes[0] - 1)

    def test_no_levels_behind_one_that_is_not_whole(self):
        for call, values in ((tells.double, (100,)), (orders.number, (100, range(100))),
                             (times.count_at, (100, 0, 0, 10 ** 100))):
            self.assertEqual(self.count(Program(plain_of(STUCK).text), [(call, values)]), 2)


if __name__ == "__main__":
    unittest.main()
