"""[42] to [44]: how often levels are called, steps are done, places are exchanged, and how much changes."""

import unittest
from math import factorial

from everyorder.counts import calls_of, changes, exchanges, most_changed, steps_done
from everyorder.errors import BadNumber, BadSize
from everyorder.programs import Program
from closed import closed_plain, right_plains
from helping import NO_INTEGERS, assert_raises
from leveling import drawing, drawn_plain, many_steps_of, plain_of, step_of
from telling import HALVES, HEAP, STUCK, TURN, WHOLE, WRONG, tell, text_of

NO_SIZES = (0, -1, 101, 10 ** 30, *NO_INTEGERS)
TURN_END = "period 1 / rest 0 same turn to the end"


def some_plains(seed, many):
    draw = drawing(seed)
    plains = [plain_of(text) for text in (*WHOLE, WRONG, STUCK, HALVES, TURN_END)]
    return plains + [drawn_plain(draw, 6) if draw.random() < 0.7 else closed_plain(draw) for _ in range(many)]


def count_plainly(plain, n):
    """How often levels are called, all steps in the order in which they are done, and the rows."""
    calls = {k: 0 for k in range(1, n + 1)}
    steps = []

    def call(k):
        calls[k] += 1
        if k == 1:
            return
        for i in range(k):
            call(k - 1)
            if i < many_steps_of(plain.level(k), k):
                steps.append(step_of(plain.level(k), k, i))

    call(n)
    return calls, steps, tell(plain, n)[0]


def moved_places(row):
    return [place for place, goal in enumerate(row) if place != goal]


def tally(rows):
    """How many things change their places between rows one behind the other, to how often."""
    told = {}
    for row, after in zip(rows, rows[1:]):
        many = sum(a != b for a, b in zip(row, after))
        told[many] = told.get(many, 0) + 1
    return told


class ExampleTest(unittest.TestCase):
    def test_examples_by_hand(self):
        heap, turn = Program(text_of(HEAP)), Program(text_of(TURN))
        self.assertEqual(calls_of(4, 2), 12)
        self.assertEqual(steps_done(heap, 4), 23)
        self.assertEqual((exchanges(heap, 3, 0, 1), exchanges(heap, 3, 0, 2)), (3, 2))
        self.assertEqual(changes(heap, 4), {2: 23})
        self.assertEqual(changes(turn, 3), {2: 5})
        self.assertEqual(steps_done(Program(text_of(TURN_END)), 3), 9)


class PlainTest(unittest.TestCase):
    def test_by_plain_calls(self):
        for plain in some_plains(321, 60):
            program = Program(plain.text)
            for n in range(1, 6):
                calls, steps, rows = count_plainly(plain, n)
                self.assertEqual({k: calls_of(n, k) for k in range(1, n + 1)}, calls)
                self.assertEqual(steps_done(program, n), len(steps))
                moved = [moved_places(step) for step in steps]
                for x in range(n):
                    for y in range(n):
                        if x != y:
                            self.assertEqual(exchanges(program, n, x, y), moved.count(sorted((x, y))))
                told = changes(program, n)
                self.assertIs(type(told), dict)
                self.assertEqual(told, tally(rows))
                self.assertEqual(most_changed(program, n), max(tally(rows), default=0))
            self.assertEqual(program, Program(plain.text))

    def test_equal_orders_count_as_0(self):
        self.assertEqual(changes(Program(text_of(STUCK)), 3), tally(tell(plain_of(STUCK), 3)[0]))
        nothing = Program("period 1\nrest 0 same exchange 0 0")
        for n in (2, 3, 40):
            self.assertEqual(changes(nothing, n), {0: factorial(n) - 1})
            self.assertEqual(most_changed(nothing, n), 0)
        self.assertEqual(changes(nothing, 1), {})
        self.assertEqual(most_changed(nothing, 1), 0)


class FarTest(unittest.TestCase):
    def test_calls_and_steps_to_a_hundred(self):
        for text in (HEAP, TURN_END, WHOLE[5], WHOLE[7]):
            plain = plain_of(text)
            for n in (1, 2, 13, 60, 100):
                called = {n: 1}
                for k in range(n, 1, -1):
                    called[k - 1] = called[k] * k
                self.assertEqual({k: calls_of(n, k) for k in range(1, n + 1)}, called)
                steps = sum(called[k] * many_steps_of(plain.level(k), k) for k in range(2, n + 1))
                self.assertEqual(steps_done(Program(plain.text), n), steps)

    def test_all_changes(self):
        for plain in [*some_plains(322, 20), *right_plains()[::4]]:
            program = Program(plain.text)
            for n in (7, 13, 40, 100):
                told = changes(program, n)
                self.assertEqual(sum(told.values()), factorial(n) - 1)
                self.assertTrue(all(0 <= many <= n and told[many] > 0 for many in told))
                self.assertEqual(most_changed(program, n), max(told))

    def test_without_levels_to_the_end(self):
        """Each change is one step."""
        draw = drawing(323)
        texts = [HEAP, TURN, "period 1 / rest 0 same roll 0 -1 1", "period 2 / rest 0 along 2 3 / rest 1 same turn"]
        for plain in (plain_of(text) for text in texts):
            program = Program(plain.text)
            for n in (8, 25, 60):
                told, places = {}, sorted(draw.sample(range(n), 2))
                exchanged = 0
                for k in range(2, n + 1):
                    for i in range(k - 1):
                        moved = moved_places(step_of(plain.level(k), k, i))
                        told[len(moved)] = told.get(len(moved), 0) + calls_of(n, k)
                        exchanged += calls_of(n, k) * (moved == places)
                self.assertEqual(changes(program, n), told)
                self.assertEqual(exchanges(program, n, *places), exchanged)
                self.assertEqual(exchanges(program, n, *places[::-1]), exchanged)

    def test_changes_of_levels_by_their_rows(self):
        """What is done between two calls is what leads from the last row of the one to the first row of the other."""
        for plain in some_plains(324, 20):
            told = changes(Program(plain.text), 6)
            self.assertEqual(told, tally(tell(plain, 6)[0]))


class RefusalTest(unittest.TestCase):
    def test_sizes(self):
        for text in (HEAP, STUCK, TURN_END):
            program = Program(text_of(text))
            for value in NO_SIZES:
                for call, values in ((steps_done, ()), (exchanges, (-1, -1)), (changes, ()), (most_changed, ())):
                    assert_raises(self, BadSize, "size", value, call, program, value, *values)
                assert_raises(self, BadSize, "size", value, calls_of, value, "x")

    def test_levels(self):
        for n in (1, 2, 7, 100):
            for value in (0, -1, n + 1, 10 ** 30, *NO_INTEGERS):
                assert_raises(self, BadSize, "size", value, calls_of, n, value)
            self.assertEqual((calls_of(n, n), calls_of(n, 1)), (1, factorial(n)))

    def test_places(self):
        for text in (HEAP, STUCK):
            program = Program(text_of(text))
            for n in (1, 2, 7, 100):
                for value in (-1, n, 10 ** 30, *NO_INTEGERS):
                    assert_raises(self, BadNumber, "number", value, exchanges, program, n, value, -2)
                    assert_raises(self, BadNumber, "number", value, exchanges, program, n, n - 1, value)
                    assert_raises(self, BadNumber, "number", value, exchanges, program, n, 0, value)
                for place in {0, n - 1}:
                    assert_raises(self, BadNumber, "number", place, exchanges, program, n, place, place)

    def test_dicts_are_new(self):
        program = Program(text_of(HEAP))
        changes(program, 5).clear()
        self.assertEqual(changes(program, 5), {2: 119})


if __name__ == "__main__":
    unittest.main()
