"""[17], [18]: how often a thing stands on a place among the first rows, and how often one left of another one."""

import unittest
from math import factorial

from everyorder.errors import BadNumber, BadPlace, BadSize, BadThing, NotWhole
from everyorder.orders import order
from everyorder.programs import Program
from everyorder.tells import double
from everyorder.times import count_at, count_left, next_at, nth_at
from helping import NO_INTEGERS, assert_raises
from leveling import drawing, drawn_plain, plain_of
from telling import HEAP, STUCK, WHOLE, drawn_numbers, tell, text_of


def whole_plains(draw, most, many):
    """Drawn programs that are whole up to a size, of many kinds."""
    told = []
    while len(told) < many:
        plain = drawn_plain(draw, 6)
        if double(Program(plain.text), most) is None:
            told.append(plain)
    return told


class ExampleTest(unittest.TestCase):
    def test_examples_by_hand(self):
        heap = Program(text_of(HEAP))
        self.assertEqual(count_at(heap, 4, 3, 1, 15), 3)
        self.assertEqual(nth_at(heap, 4, 3, 1, 0), 12)
        self.assertEqual(next_at(heap, 4, 3, 1, 15), 15)
        self.assertIsNone(next_at(heap, 4, 3, 1, 18))
        self.assertEqual(count_at(heap, 3, 0, 2, 6), 2)
        self.assertEqual(nth_at(heap, 3, 0, 2, 1), 5)
        self.assertEqual(count_left(heap, 3, 0, 2, 3), 2)
        self.assertEqual(count_left(heap, 3, 0, 2, 6), 3)


class PlainCallsTest(unittest.TestCase):
    def hold_places(self, program, n, rows):
        for place in range(n):
            for thing in range(n):
                where = [i for i, row in enumerate(rows) if row[place] == thing]
                self.assertEqual(len(where), factorial(n - 1))
                for k, i in enumerate(where):
                    self.assertEqual(nth_at(program, n, place, thing, k), i)
                for i in range(0, len(rows) + 1, 1 + len(rows) // 40):
                    self.assertEqual(count_at(program, n, place, thing, i), sum(at < i for at in where))
                for i in range(0, len(rows), 1 + len(rows) // 40):
                    self.assertEqual(next_at(program, n, place, thing, i), min((at for at in where if at >= i),
                                                                              default=None))

    def hold_both_ways(self, program, n, rows):
        for one in range(n):
            for other in range(n):
                if one != other:
                    left = [row.index(one) < row.index(other) for row in rows]
                    for i in (*range(0, len(rows), 1 + len(rows) // 25), len(rows) - 1, len(rows)):
                        self.assertEqual(count_left(program, n, one, other, i), sum(left[:i]))

    def test_whole_programs(self):
        for text in WHOLE:
            program = Program(text_of(text))
            for n in range(1, 6):
                rows, _ = tell(plain_of(text), n)
                self.hold_places(program, n, rows)
                self.hold_both_ways(program, n, rows)

    def test_drawn_programs(self):
        draw = drawing(61)
        for plain in whole_plains(draw, 4, 15):
            program = Program(plain.text)
            for n in range(1, 5):
                rows, _ = tell(plain, n)
                self.hold_places(program, n, rows)
                self.hold_both_ways(program, n, rows)

    def test_six_things(self):
        draw = drawing(62)
        for text in (*WHOLE[:6:2], *(plain.text for plain in whole_plains(draw, 6, 3))):
            program = Program(text_of(text))
            rows, _ = tell(plain_of(text), 6)
            for _ in range(60):
                place, thing, i = draw.randrange(6), draw.randrange(6), draw.randrange(721)
                where = [at for at, row in enumerate(rows) if row[place] == thing]
                k = draw.randrange(120)
                self.assertEqual(count_at(program, 6, place, thing, i), sum(at < i for at in where))
                self.assertEqual(nth_at(program, 6, place, thing, k), where[k])
                if i < 720:
                    self.assertEqual(next_at(program, 6, place, thing, i),
                                     min((at for at in where if at >= i), default=None))
                one, other = draw.sample(range(6), 2)
                self.assertEqual(count_left(program, 6, one, other, i),
                                 sum(row.index(one) < row.index(other) for row in rows[:i]))


class FarTest(unittest.TestCase):
    def test_all_things_of_a_place_and_all_places_of_a_thing(self):
        draw = drawing(63)
        for text, sizes in ((HEAP, (20, 60)), (WHOLE[5], (13, 60)), (WHOLE[7], (14,)), (WHOLE[1], (100,))):
            program = Program(text_of(text))
            for n in sizes:
                for i in (draw.randint(0, factorial(n)), factorial(n)):
                    place, thing = draw.randrange(n), draw.randrange(n)
                    self.assertEqual(sum(count_at(program, n, place, other, i) for other in range(n)), i)
                    self.assertEqual(sum(count_at(program, n, other, thing, i) for other in range(n)), i)

    def test_one_row_more(self):
        draw = drawing(64)
        for text in WHOLE:
            program = Program(text_of(text))
            for n in (9, 24, 60, 100):
                for i in drawn_numbers(draw, n, 1):
                    row = order(program, n, i)
                    for place in (0, n - 1, draw.randrange(n)):
                        for thing in (row[place], draw.randrange(n)):
                            counts = [count_at(program, n, place, thing, at) for at in (i, i + 1)]
                            self.assertEqual(counts[1] - counts[0], row[place] == thing)

    def test_the_row_that_is_told(self):
        draw = drawing(65)
        for text in WHOLE:
            program = Program(text_of(text))
            for n in (9, 24, 60, 100):
                last = factorial(n - 1) - 1
                for k in (0, draw.randint(0, last), last):
                    place, thing = draw.choice((0, n - 1, draw.randrange(n))), draw.randrange(n)
                    i = nth_at(program, n, place, thing, k)
                    self.assertEqual(order(program, n, i)[place], thing)
                    self.assertEqual(count_at(program, n, place, thing, i), k)
                    self.assertEqual(next_at(program, n, place, thing, i), i)
                    if k < last:
                        after = next_at(program, n, place, thing, i + 1)
                        self.assertEqual(after, nth_at(program, n, place, thing, k + 1))
                        self.assertGreater(after, i)
                    elif i < factorial(n) - 1:
                        self.assertIsNone(next_at(program, n, place, thing, i + 1))

    def test_no_rows_and_all_rows(self):
        for text in WHOLE:
            program = Program(text_of(text))
            for n in (2, 13, 60, 100):
                for place, thing in ((0, 0), (n - 1, 0), (0, n - 1), (n // 2, n - 2)):
                    self.assertEqual(count_at(program, n, place, thing, 0), 0)
                    self.assertEqual(count_at(program, n, place, thing, factorial(n)), factorial(n - 1))
                for one, other in ((0, n - 1), (n - 1, 0), (n // 2, n // 2 - 1)):
                    self.assertEqual(count_left(program, n, one, other, 0), 0)
                    self.assertEqual(count_left(program, n, one, other, factorial(n)), factorial(n) // 2)

    def test_left_both_ways(self):
        draw = drawing(66)
        for text in WHOLE:
            program = Program(text_of(text))
            for n in (8, 60, 100):
                one, other = draw.sample(range(n), 2)
                for i in drawn_numbers(draw, n, 1):
                    left = count_left(program, n, one, other, i)
                    self.assertEqual(left + count_left(program, n, other, one, i), i)
                    row = order(program, n, i)
                    more = count_left(program, n, one, other, i + 1)
                    self.assertEqual(more - left, row.index(one) < row.index(other))


class RefusedTest(unittest.TestCase):
    """The order of all errors is held in test_refusals.py."""

    def test_one_thing(self):
        for text in (HEAP, STUCK):
            program = Program(text_of(text))
            self.assertEqual([count_at(program, 1, 0, 0, i) for i in (0, 1)], [0, 1])
            self.assertEqual(nth_at(program, 1, 0, 0, 0), 0)
            self.assertEqual(next_at(program, 1, 0, 0, 0), 0)
            assert_raises(self, BadThing, "thing", 0, count_left, program, 1, 0, 0, 0)
            assert_raises(self, BadNumber, "number", 2, count_at, program, 1, 0, 0, 2)
            assert_raises(self, BadNumber, "number", 1, next_at, program, 1, 0, 0, 1)
            assert_raises(self, BadNumber, "number", 1, nth_at, program, 1, 0, 0, 1)

    def test_the_same_thing_twice(self):
        program = Program(text_of(HEAP))
        for n, thing in ((2, 1), (4, 0), (100, 99)):
            assert_raises(self, BadThing, "thing", thing, count_left, program, n, thing, thing, -1)

    def test_wrong_values(self):
        program = Program(text_of(HEAP))
        for value in (-1, 4, 10 ** 30, *NO_INTEGERS):
            for call in (count_at, nth_at, next_at):
                assert_raises(self, BadPlace, "place", value, call, program, 4, value, 9, 99)
                assert_raises(self, BadThing, "thing", value, call, program, 4, 3, value, 99)
            assert_raises(self, BadThing, "thing", value, count_left, program, 4, value, 9, 99)
            assert_raises(self, BadThing, "thing", value, count_left, program, 4, 3, value, 99)
        for value in (0, 101, 10 ** 30, *NO_INTEGERS):
            for call in (count_at, nth_at, next_at, count_left):
                assert_raises(self, BadSize, "size", value, call, program, value, -1, -1, -1)

    def test_not_whole_behind_the_others(self):
        stuck = Program(text_of(STUCK))
        for call in (count_at, nth_at, next_at, count_left):
            self.assertIsInstance(call(stuck, 2, 0, 1, 0), int)
            for n in (3, 4, 100):
                assert_raises(self, NotWhole, "size", 3, call, stuck, n, 0, 1, 0)
                assert_raises(self, BadNumber, "number", -1, call, stuck, n, 0, 1, -1)


if __name__ == "__main__":
    unittest.main()
