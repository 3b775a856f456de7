"""[13], [14], [15], [16]: orders by numbers, numbers of orders, the steps between, and going through them."""

import itertools
import types
import unittest
from math import factorial

from everyorder.errors import BadNumber, BadRow, BadSize, NotWhole
from everyorder.orders import number, numbers, order, steps, told_from
from everyorder.programs import Program
from everyorder.tells import double, twice
from helping import NO_INTEGERS, assert_raises
from leveling import drawing, drawn_plain, many_steps_of, plain_of, step_of
from telling import HALVES, HEAP, ROLL, STUCK, TURN, WHOLE, WRONG, drawn_numbers, tell, text_of

NO_SIZES = (0, -1, 101, 102, 10 ** 30, *NO_INTEGERS)


def some_plains(seed, many):
    draw = drawing(seed)
    return [plain_of(text) for text in (*WHOLE, WRONG, STUCK, HALVES)] + [drawn_plain(draw, 6) for _ in range(many)]


def row_behind(row, plain, told):
    """The row that a row becomes by steps, each a pair (k, i)."""
    row = list(row)
    for k, i in told:
        row[:k] = [row[place] for place in step_of(plain.level(k), k, i)]
    return row


class ExampleTest(unittest.TestCase):
    def test_examples_by_hand(self):
        heap, wrong, roll = (Program(text_of(text)) for text in (HEAP, WRONG, ROLL))
        self.assertEqual(list(told_from(heap, 3, 0)),
                         [[0, 1, 2], [1, 0, 2], [2, 0, 1], [0, 2, 1], [1, 2, 0], [2, 1, 0]])
        self.assertEqual(order(heap, 4, 6), [3, 1, 0, 2])
        self.assertEqual(number(heap, 4, [3, 1, 0, 2]), 6)
        self.assertEqual(numbers(wrong, 4, [3, 2, 1, 0]), (6, 18))
        self.assertEqual(numbers(wrong, 4, [0, 1, 3, 2]), ())
        self.assertEqual(steps(heap, 4, 4), ((3, 1),))
        self.assertEqual(steps(heap, 4, 6), ((4, 0),))
        self.assertEqual(steps(heap, 4, 24), ())
        self.assertEqual([order(roll, 3, i) for i in range(6)],
                         [[0, 1, 2], [1, 0, 2], [2, 0, 1], [0, 2, 1], [1, 2, 0], [2, 1, 0]])
        self.assertEqual(steps(roll, 3, 1), ((2, 0),))
        self.assertEqual(steps(roll, 3, 2), ((2, 1), (3, 0)))
        self.assertEqual(steps(roll, 3, 6), ((2, 1), (3, 2)))


class PlainCallsTest(unittest.TestCase):
    def test_orders_and_going_through_them(self):
        draw = drawing(41)
        for plain in some_plains(42, 60):
            program = Program(plain.text)
            for n in range(1, 7):
                rows, _ = tell(plain, n)
                for i in drawn_numbers(draw, n, 20):
                    told = order(program, n, i)
                    self.assertIs(type(told), list)
                    self.assertEqual(tuple(told), rows[i])
                if n < 6:
                    for i in drawn_numbers(draw, n, 3):
                        self.assertEqual([tuple(row) for row in told_from(program, n, i)], rows[i:])

    def test_numbers(self):
        draw = drawing(43)
        seen = set()
        for plain in some_plains(44, 150):
            program = Program(plain.text)
            for n in range(1, 7):
                rows, _ = tell(plain, n)
                told = double(program, n)
                beneath = None if n == 1 else double(program, n - 1)
                seen.add((told is None, beneath is None))
                orders = list(itertools.permutations(range(n)))
                for row in draw.sample(orders, min(len(orders), 15)) + draw.sample(rows, min(len(rows), 15)):
                    where = tuple(i for i, other in enumerate(rows) if other == row)
                    handed = list(row) if draw.random() < 0.5 else row
                    if told is None:
                        self.assertEqual((number(program, n, handed),), where)
                    else:
                        assert_raises(self, NotWhole, "size", told.size, number, program, n, handed)
                    if beneath is None:
                        self.assertEqual(numbers(program, n, handed), where)
                        self.assertIs(type(numbers(program, n, handed)), tuple)
                    else:
                        assert_raises(self, NotWhole, "size", beneath.size, numbers, program, n, handed)
                    self.assertEqual(tuple(handed), row)
        self.assertEqual(seen, {(True, True), (False, True), (False, False)})

    def test_steps(self):
        for plain in some_plains(45, 40):
            program = Program(plain.text)
            for n in range(1, 6):
                rows, end = tell(plain, n)
                for y in range(1, len(rows) + 1):
                    told = steps(program, n, y)
                    self.assertIs(type(told), tuple)
                    goal = end if y == len(rows) else list(rows[y])
                    self.assertEqual(row_behind(rows[y - 1], plain, told), goal)
                    if y < len(rows):
                        self.assertGreater(len(told), 0)

    def test_all_of_them_together(self):
        for plain in some_plains(46, 60):
            program = Program(plain.text)
            for n in range(2, 7):
                rows = [tuple(row) for row in told_from(program, n, 0)]
                self.assertEqual(len(rows), factorial(n))
                if double(program, n) is not None:
                    self.assertLess(len(set(rows)), len(rows))
                    i, j = twice(program, n)
                    self.assertEqual(rows.index(rows[j]), i)
                    self.assertEqual(len(set(rows[:j])), j)
                    continue
                self.assertEqual(sorted(rows), list(itertools.permutations(range(n))))
                if n < 6:
                    for i, row in enumerate(rows):
                        self.assertEqual(number(program, n, row), i)
                        self.assertEqual(numbers(program, n, row), (i,))


class FarTest(unittest.TestCase):
    def test_there_and_back(self):
        draw = drawing(47)
        for text in WHOLE:
            program = Program(text_of(text))
            for n in (7, 12, 13, 14, 19, 24):
                for i in drawn_numbers(draw, n, 4):
                    row = order(program, n, i)
                    self.assertEqual(sorted(row), list(range(n)))
                    self.assertEqual(number(program, n, row), i)
                    self.assertEqual(numbers(program, n, row), (i,))

    def test_there_and_back_at_a_hundred(self):
        draw = drawing(48)
        for text in WHOLE[:6]:
            program = Program(text_of(text))
            for i in drawn_numbers(draw, 100, 2):
                row = order(program, 100, i)
                self.assertEqual(number(program, 100, tuple(row)), i)
            self.assertEqual(order(program, 100, 0), list(range(100)))

    def test_the_last_level_is_not_whole(self):
        draw = drawing(49)
        for n in range(7, 13):
            for _ in range(3):
                places = " ".join(str(draw.randrange(n - 1)) for _ in range(n - 1))
                program = Program(text_of(HEAP)).with_level(n, f"list {places}")
                for i in drawn_numbers(draw, n, 2):
                    row = order(program, n, i)
                    told = numbers(program, n, row)
                    self.assertIn(i, told)
                    self.assertEqual(list(told), sorted(set(told)))
                    for at in told:
                        self.assertEqual(order(program, n, at), row)

    def test_steps_lead_from_row_to_row(self):
        draw = drawing(50)
        for plain in some_plains(51, 12):
            program = Program(plain.text)
            for n in (7, 12, 40, 100):
                last = factorial(n)
                ends = {last, last - 1, *(factorial(k) for k in range(1, n, 1 + n // 6))}
                ends.update(factorial(k) * draw.randint(1, last // factorial(k)) for k in (2, n // 2, n - 1))
                for y in {*ends, draw.randint(1, last)} if n < 100 else draw.sample(sorted(ends), 4):
                    told = steps(program, n, y)
                    for k, i in told:
                        self.assertEqual(y % factorial(k - 1), 0)
                        self.assertEqual(i, (y // factorial(k - 1) - 1) % k)
                        self.assertLess(i, many_steps_of(plain.level(k), k))
                    self.assertEqual([k for k, _ in told], sorted({k for k, _ in told}))
                    if y < last:
                        self.assertEqual(row_behind(order(program, n, y - 1), plain, told), order(program, n, y))
                    else:
                        self.assertEqual(told, tuple((k, k - 1) for k in range(2, n + 1)
                                                     if many_steps_of(plain.level(k), k) == k))

    def test_the_first_rows_of_a_long_way(self):
        draw = drawing(52)
        for plain in some_plains(53, 5):
            program = Program(plain.text)
            for n in (12, 40, 100):
                last = factorial(n) - 1
                for i in (0, draw.randint(0, last), last - 3, last):
                    rows = list(itertools.islice(told_from(program, n, i), 4))
                    self.assertEqual(len(rows), min(4, last - i + 1))
                    for at, row in enumerate(rows):
                        self.assertEqual(row, order(program, n, i + at))

    def test_all_rows_of_seven(self):
        for text in (HEAP, ROLL):
            rows = {tuple(row) for row in told_from(Program(text_of(text)), 7, 0)}
            self.assertEqual(len(rows), 5040)


class NewTest(unittest.TestCase):
    def test_each_row_is_a_new_list(self):
        for text in (HEAP, TURN, ROLL):
            program = Program(text_of(text))
            rows = []
            for row in told_from(program, 4, 0):
                self.assertIs(type(row), list)
                rows.append(tuple(row))
                row[0] = "changed"
                row.clear()
            self.assertEqual(rows, tell(plain_of(text), 4)[0])
            self.assertEqual(len({id(row) for row in list(told_from(program, 4, 0))}), 24)

    def test_orders_are_new(self):
        program = Program(text_of(HEAP))
        first = order(program, 4, 6)
        first[0] = "changed"
        self.assertEqual(order(program, 4, 6), [3, 1, 0, 2])

    def test_rows_stay(self):
        program = Program(text_of(HEAP))
        row = [3, 1, 0, 2]
        number(program, 4, row)
        numbers(program, 4, row)
        self.assertEqual(row, [3, 1, 0, 2])

    def test_two_ways_at_once(self):
        program = Program(text_of(HEAP))
        self.assertEqual(list(zip(told_from(program, 4, 0), told_from(program, 4, 0))),
                         [(row, row) for row in told_from(program, 4, 0)])


class RefusedTest(unittest.TestCase):
    def test_sizes_that_are_none(self):
        for text in (HEAP, WRONG, STUCK):
            program = Program(text_of(text))
            for size in NO_SIZES:
                for other in (0, -1, None):
                    assert_raises(self, BadSize, "size", size, order, program, size, other)
                    assert_raises(self, BadSize, "size", size, steps, program, size, other)
                for row in ([], [0], [0, 0], ["x"]):
                    assert_raises(self, BadSize, "size", size, number, program, size, row)
                    assert_raises(self, BadSize, "size", size, numbers, program, size, row)

    def test_numbers_that_are_none(self):
        for text in (HEAP, WRONG, STUCK):
            program = Program(text_of(text))
            for n in (1, 2, 5, 100):
                for i in (-1, factorial(n), factorial(n) + 1, 10 ** 300, *NO_INTEGERS):
                    assert_raises(self, BadNumber, "number", i, order, program, n, i)
                for y in (0, -1, factorial(n) + 1, 10 ** 300, *NO_INTEGERS):
                    assert_raises(self, BadNumber, "number", y, steps, program, n, y)
                self.assertEqual(len(order(program, n, factorial(n) - 1)), n)
                steps(program, n, factorial(n))

    def test_rows_that_are_none(self):
        for text in (HEAP, WRONG, STUCK):
            program = Program(text_of(text))
            for call in (number, numbers):
                for n, row, index in ((4, [], 0), (4, [0, 1, 2], 3), (4, [0, 1, 2, 4], 3), (4, [0, 1, 2, 3, 4], 4),
                                      (4, [0, 1, 2, 3, 0], 4), (4, [0, 0, 9], 1), (4, [0, -1, 0], 1), (1, [], 0),
                                      (1, [1], 0), (1, [0, 0], 1), (4, [3, 2, 1, 1], 3), (4, [4], 0), (4, (2,), 1),
                                      (100, list(range(99)), 99), (100, list(range(101)), 100)):
                    handed = list(row)
                    assert_raises(self, BadRow, "index", index, call, program, n, handed)
                    assert_raises(self, BadRow, "index", index, call, program, n, tuple(row))
                    self.assertEqual(handed, list(row))
                for member in NO_INTEGERS:
                    assert_raises(self, BadRow, "index", 2, call, program, 4, [3, 1, member, 1])

    def test_not_whole_behind_the_rows(self):
        stuck, wrong = Program(text_of(STUCK)), Program(text_of(WRONG))
        self.assertEqual(number(stuck, 2, [1, 0]), 1)
        for n in (3, 4, 100):
            assert_raises(self, NotWhole, "size", 3, number, stuck, n, list(range(n)))
        self.assertEqual(numbers(stuck, 3, [0, 1, 2]), (0, 2, 4))
        self.assertEqual(numbers(stuck, 3, [2, 1, 0]), ())
        for n in (4, 5, 100):
            assert_raises(self, NotWhole, "size", 3, numbers, stuck, n, list(range(n)))
        assert_raises(self, NotWhole, "size", 4, number, wrong, 4, [0, 1, 2, 3])
        assert_raises(self, NotWhole, "size", 4, numbers, wrong, 5, [0, 1, 2, 3, 4])

    def test_one_thing(self):
        for text in (HEAP, WRONG, STUCK):
            program = Program(text_of(text))
            self.assertEqual(order(program, 1, 0), [0])
            self.assertEqual(number(program, 1, [0]), 0)
            self.assertEqual(numbers(program, 1, (0,)), (0,))
            self.assertEqual(steps(program, 1, 1), ())
            self.assertEqual(list(told_from(program, 1, 0)), [[0]])

    def test_errors_when_the_iteration_begins(self):
        program = Program(text_of(HEAP))
        for n, i, kind, attribute, value in ((0, 0, BadSize, "size", 0), (101, -1, BadSize, "size", 101),
                                             ("4", 0, BadSize, "size", "4"), (4, 24, BadNumber, "number", 24),
                                             (4, -1, BadNumber, "number", -1), (4, None, BadNumber, "number", None),
                                             (100, factorial(100), BadNumber, "number", factorial(100))):
            way = told_from(program, n, i)
            self.assertIsInstance(way, types.GeneratorType)
            assert_raises(self, kind, attribute, value, next, way)
        for value in NO_INTEGERS:
            assert_raises(self, BadNumber, "number", value, next, told_from(program, 3, value))
            assert_raises(self, BadSize, "size", value, next, told_from(program, value, None))


if __name__ == "__main__":
    unittest.main()
