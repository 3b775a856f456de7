"""[10], [12]: what levels do; [11]: whether each order is told once."""

import itertools
import unittest
from math import factorial

from everyorder.errors import BadCall, BadSize
from everyorder.orders import number, order
from everyorder.programs import Program
from everyorder.tells import Double, before, does, double, lasts, twice
from helping import NO_INTEGERS, assert_raises
from leveling import drawing, drawn_plain, plain_of
from telling import (HALVES, HEAP, ROLL, STUCK, TURN, WHOLE, WRONG, double_of, first_double, first_wrong_at,
                     levels_told, tell, text_of)


def some_plains(seed, many):
    """Programs that are whole, and drawn ones, of which most are not."""
    draw = drawing(seed)
    told = [plain_of(text) for text in (*WHOLE, WRONG, STUCK, HALVES)]
    return told + [drawn_plain(draw, draw.choice((4, 6, 12))) for _ in range(many)]


class ExampleTest(unittest.TestCase):
    def test_examples_by_hand(self):
        heap, wrong = Program(text_of(HEAP)), Program(text_of(WRONG))
        self.assertEqual([does(heap, k) for k in (1, 2, 3, 4, 5)],
                         [[0], [1, 0], [2, 1, 0], [1, 2, 3, 0], [4, 1, 2, 3, 0]])
        self.assertEqual(lasts(heap, 4), (3, 2, 1, 0))
        self.assertEqual(before(heap, 4, 1), [3, 1, 0, 2])
        self.assertEqual(lasts(wrong, 4), (3, 0, 1, 0))
        for n in (4, 5, 40, 100):
            self.assertEqual(double(wrong, n), Double(4, 1, 3))
            self.assertEqual(twice(wrong, n), (6, 18))
        for n in (1, 2, 3):
            self.assertIsNone(double(wrong, n))
            self.assertIsNone(twice(wrong, n))

    def test_rolls_do_nothing(self):
        for n in range(1, 30):
            self.assertEqual(does(Program(text_of(ROLL)), n), list(range(n)))
            self.assertEqual(sorted(does(Program(text_of(TURN)), n)), list(range(n)))


class DoesTest(unittest.TestCase):
    def test_by_plain_calls(self):
        for plain in some_plains(31, 60):
            program = Program(plain.text)
            self.assertEqual(does(program, 1), [0])
            for k in range(2, 7):
                rows, end = tell(plain, k)
                self.assertEqual(does(program, k), end)
                part = factorial(k - 1)
                heads = [list(rows[d * part]) for d in range(k)]
                self.assertEqual([before(program, k, d) for d in range(k)], heads)
                self.assertEqual(lasts(program, k), tuple(row[k - 1] for row in heads))

    def hold_levels(self, plain, n, sizes):
        program = Program(plain.text)
        told = levels_told(plain, n)
        for k in sizes:
            ahead, end = told[k]
            self.assertEqual(does(program, k), end, k)
            self.assertEqual(lasts(program, k), tuple(row[k - 1] for row in ahead))
            for d in {0, 1, k // 2, k - 2, k - 1}:
                self.assertEqual(before(program, k, d), ahead[d])

    def test_level_by_level(self):
        for plain in some_plains(32, 16):
            self.hold_levels(plain, 32, (2, 3, 6, 7, 11, 12, 13, 14, 20, 31, 32))

    def test_a_hundred(self):
        self.hold_levels(plain_of(HEAP), 100, (50, 99, 100))
        for plain in some_plains(33, 3)[-3:]:
            self.hold_levels(plain, 100, (99, 100))

    def test_kinds(self):
        for text in (*WHOLE, WRONG, HALVES):
            program = Program(text_of(text))
            for k in (2, 5, 100):
                self.assertIs(type(does(program, k)), list)
                self.assertIs(type(before(program, k, 1)), list)
                self.assertIs(type(lasts(program, k)), tuple)

    def test_lists_that_are_told_are_new(self):
        for text in WHOLE:
            program = Program(text_of(text))
            for call in (lambda p: does(p, 1), lambda p: does(p, 6), lambda p: before(p, 6, 0),
                         lambda p: before(p, 6, 3)):
                first = call(program)
                told = list(first)
                first[0] = "changed"
                first.append(7)
                self.assertEqual(call(program), told)
            self.assertEqual(program, Program(text_of(text)))


class RefusedTest(unittest.TestCase):
    def test_sizes_that_are_none(self):
        for text in (HEAP, WRONG, STUCK):
            program = Program(text_of(text))
            for size in (0, -1, 101, 102, 10 ** 30, -10 ** 30, *NO_INTEGERS):
                for call in (does, double, twice, lasts):
                    assert_raises(self, BadSize, "size", size, call, program, size)
                for d in (0, -1, 10 ** 30, None, "no call"):
                    assert_raises(self, BadSize, "size", size, before, program, size, d)
            assert_raises(self, BadSize, "size", 1, lasts, program, 1)
            assert_raises(self, BadSize, "size", 1, before, program, 1, 0)
            for size in (1, 100):
                self.assertEqual(len(does(program, size)), size)
                double(program, size)
                twice(program, size)

    def test_calls_that_are_none(self):
        for text in (HEAP, WRONG, STUCK):
            program = Program(text_of(text))
            for size in (2, 3, 12, 100):
                self.assertEqual(len(before(program, size, size - 1)), size)
                for d in (-1, size, size + 1, 10 ** 30, *NO_INTEGERS):
                    assert_raises(self, BadCall, "call", d, before, program, size, d)


class DoubleTest(unittest.TestCase):
    def test_by_plain_calls(self):
        for plain in some_plains(34, 120):
            program = Program(plain.text)
            least = None
            for n in range(1, 7):
                rows, _ = tell(plain, n)
                pair = first_double(rows)
                self.assertEqual(twice(program, n), pair)
                if pair is None:
                    self.assertEqual(len(set(rows)), factorial(n))
                    self.assertIsNone(double(program, n))
                    continue
                least = least or n
                told = double(program, n)
                part = factorial(least - 1)
                self.assertIs(type(told), Double)
                self.assertEqual((told.size, told.first, told.again), (least, pair[0] // part, pair[1] // part))
                self.assertEqual(told.again * part, pair[1])

    def hold_first_wrong(self, text, size, sizes):
        """Hold what is told of a program whose least level that is not whole is this one."""
        program = Program(text_of(text))
        first, again = double_of(levels_told(plain_of(text), size)[size][0], size)
        part = factorial(size - 1)
        self.assertIsNone(double(program, size - 1))
        self.assertIsNone(twice(program, size - 1))
        for n in sizes:
            self.assertEqual(double(program, n), Double(size, first, again))
            i, j = twice(program, n)
            self.assertEqual(j, again * part)
            self.assertEqual(i // part, first)
            self.assertEqual(order(program, size, i), order(program, size, j))
        # The rows of the first call are all unlike, so no other number below j can be meant.
        self.assertEqual(i % part, number(program, size - 1, [before(program, size, first).index(thing)
                                                              for thing in order(program, size, j)[:size - 1]]))

    def test_wrong_levels_to_12(self):
        draw = drawing(35)
        for size in range(3, 13):
            for base in (HEAP, TURN, ROLL):
                plain = plain_of(base)
                found = 0
                while found < 3:
                    places = [draw.randrange(size - 1) for _ in range(size - 1)]
                    plain.singles = {size: f"list {' '.join(map(str, places))}"}
                    if double_of(levels_told(plain, size)[size][0], size):
                        found += 1
                        self.hold_first_wrong(plain.text.replace("\n", " / "), size, (size, size + 1, 40, 100))

    def test_level_2(self):
        for level in ("same roll 0 -1 2", "same exchange 0 0", "same exchange 0 2 to the end"):
            program = Program(f"period 1\nrest 0 {level}")
            for n in (2, 3, 12, 40, 100):
                self.assertEqual(double(program, n), Double(2, 0, 1))
                self.assertEqual(twice(program, n), (0, 1))
            self.assertIsNone(double(program, 1))

    def test_wrong_levels_from_14_on(self):
        for size in range(14, 19):
            found = 0
            for level in ("same exchange 0 1", "along 2 0", "along 1 1 to the end", "same roll 0 -1 2",
                          "same exchange 3 half", "along 3 half", "same turn then exchange 0 -1 to the end"):
                text = first_wrong_at(size, level)
                if double_of(levels_told(plain_of(text), size)[size][0], size):
                    found += 1
                    self.hold_first_wrong(text, size, (size, size + 1, 40, 100))
            self.assertGreater(found, 2)

    def test_whole_programs(self):
        for text in WHOLE:
            for n in (1, 2, 7, 12, 13, 14, 40, 100):
                self.assertIsNone(double(Program(text_of(text)), n), (text, n))
                self.assertIsNone(twice(Program(text_of(text)), n))

    def test_halves(self):
        self.assertEqual(double(Program(text_of(HALVES)), 100), Double(4, 0, 2))


class DoubleObjectTest(unittest.TestCase):
    def test_attributes(self):
        told = Double(7, 2, 5)
        self.assertEqual((told.size, told.first, told.again), (7, 2, 5))

    def test_equality(self):
        triples = list(itertools.product((2, 3, 10 ** 30), (0, 1), (1, 2)))
        for one, other in itertools.product(triples, repeat=2):
            self.assertIs(Double(*one) == Double(*other), one == other)
            self.assertIs(Double(*one) != Double(*other), one != other)
        for other in ((2, 0, 1), None, 2, [2, 0, 1], "Double(2, 0, 1)"):
            self.assertFalse(Double(2, 0, 1) == other)
            self.assertTrue(Double(2, 0, 1) != other)


if __name__ == "__main__":
    unittest.main()
