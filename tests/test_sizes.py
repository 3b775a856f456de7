"""[33]: the sizes that fail, as objects: what is in them, the least ones, and which are equal."""

import itertools
import unittest

from everyorder.always import failing
from everyorder.programs import Program
from everyorder.sizes import Sizes, prime_factors, shortest_turn
from closed import closed_plain, fails_by
from helping import NO_INTEGERS
from leveling import drawing, plain_of
from telling import HALVES, HEAP, text_of

FAR = (10 ** 15, 10 ** 30, 10 ** 30 + 7, 10 ** 60 + 1)


def some_sizes():
    draw = drawing(201)
    told = []
    for _ in range(60):
        program = Program(closed_plain(draw).text)
        told.extend(failing(program, rest) for rest in range(program.period))
    return told


def members(sizes, low, high):
    """The sizes from low on and less than high, by the words of [33]."""
    return [k for k in range(low, high) if (k in sizes.early if k < sizes.start else k % sizes.period in sizes.rests)]


class FormTest(unittest.TestCase):
    def test_kinds(self):
        for sizes in some_sizes():
            self.assertIs(type(sizes), Sizes)
            self.assertEqual({type(sizes.start), type(sizes.period)}, {int})
            for told in (sizes.rests, sizes.early):
                self.assertIs(type(told), tuple)
                self.assertEqual(list(told), sorted(set(told)))
                self.assertTrue(all(type(size) is int for size in told))
            self.assertGreaterEqual(sizes.start, 14)
            self.assertTrue(all(14 <= size < sizes.start for size in sizes.early))
            self.assertTrue(all(0 <= rest < sizes.period for rest in sizes.rests))
            for name in ("start", "period", "rests", "early"):
                self.assertIn(name, vars(sizes))


class InTest(unittest.TestCase):
    def test_any_value(self):
        for sizes in some_sizes():
            told = members(sizes, 0, 200)
            for k in range(-5, 200):
                self.assertIs(k in sizes, k in told)
            for k in FAR:
                self.assertIs(k in sizes, k % sizes.period in sizes.rests)
            for value in (*NO_INTEGERS, 14.0, "14", -10 ** 30, (14,), [16]):
                self.assertIs(value in sizes, False)

    def test_small_sizes_are_never_in(self):
        # Every size of this program from 14 on fails.
        sizes = failing(Program("period 1\nrest 0 same exchange 0 0"), 0)
        self.assertEqual([k for k in range(-3, 30) if k in sizes], list(range(14, 30)))


class LeastTest(unittest.TestCase):
    def test_least_and_next(self):
        seen = set()
        for sizes in (*some_sizes(), Sizes(20, 3, (), (15, 18)), Sizes(20, 3, (), ())):
            told = members(sizes, 0, sizes.start + 2 * sizes.period)
            self.assertEqual(sizes.least, told[0] if told else None)
            seen.add((bool(sizes.early), bool(sizes.rests)))
            for low in (-10 ** 30, 0, 13, 14, 15, sizes.start - 1, sizes.start, sizes.start + sizes.period - 1, *FAR,
                        *sizes.early, *range(16, 40)):
                after = sizes.next_from(low)
                high = max(low, sizes.start) + sizes.period
                self.assertEqual(after, next((k for k in range(max(low, 14), high) if k in sizes), None))
        self.assertEqual(len(seen), 4)


class EqualityTest(unittest.TestCase):
    def test_by_members(self):
        told = some_sizes()[:90]
        spans = [(sizes, members(sizes, 14, 400)) for sizes in told if sizes.period < 150 and sizes.start < 90]
        equal = 0
        for (one, of_one), (other, of_other) in itertools.product(spans, repeat=2):
            self.assertIs(one == other, of_one == of_other)
            self.assertIs(one != other, of_one != of_other)
            equal += one is not other and one == other and one.period != other.period
        self.assertGreater(equal, 0)

    def test_one_set_by_several_periods(self):
        for many in (1, 2, 3):
            lines = [f"rest {rest} same roll 0 -1 half to the end" for rest in range(2 * many)]
            program = Program("\n".join([f"period {2 * many}", *lines]))
            told = [failing(program, rest) for rest in range(2 * many)]
            self.assertEqual([sizes.rests for sizes in told], [(rest,) if rest % 2 == 0 else () for rest in
                                                               range(2 * many)])
            halves = failing(Program(text_of(HALVES)), 0)
            self.assertIs(told[0] == halves, many == 1)
            self.assertTrue(all(sizes == failing(Program(text_of(HEAP)), 1) for sizes in told[1::2]))

    def test_others(self):
        sizes = failing(Program(text_of(HALVES)), 0)
        for other in (None, 14, (14, 2, (0,), ()), [14, 16], {14}, range(14, 100, 2)):
            self.assertFalse(sizes == other)
            self.assertTrue(sizes != other)

    def test_early_ones_count(self):
        self.assertFalse(Sizes(17, 2, (0,), (14, 16)) == Sizes(17, 2, (0,), (16,)))
        self.assertFalse(Sizes(14, 2, (0,), ()) == Sizes(16, 2, (0,), ()))
        self.assertTrue(Sizes(14, 2, (0,), ()) == Sizes(14, 6, (0, 2, 4), ()))


class TurnTest(unittest.TestCase):
    def test_prime_factors(self):
        for number in range(1, 400):
            told = prime_factors(number)
            product = 1
            for factor in told:
                self.assertTrue(all(factor % other for other in range(2, factor)))
                product *= factor
            self.assertEqual((told, product), (sorted(told), number))

    def test_shortest_turns(self):
        draw = drawing(202)
        for _ in range(400):
            turn = [draw.random() < 0.6 for _ in range(draw.randint(1, 12))]
            marks = turn * draw.randint(1, 12)
            least = next(n for n in range(1, len(marks) + 1) if len(marks) % n == 0
                         and marks == marks[:n] * (len(marks) // n))
            self.assertEqual(shortest_turn(marks), marks[:least])
            self.assertEqual(marks, turn * (len(marks) // len(turn)))


class LeastFormTest(unittest.TestCase):
    def test_numbers_from_9_to_18(self):
        draw = drawing(203)
        for number in range(9, 19):
            plain, rest = fails_by(number, draw)
            sizes = failing(Program(plain.text), rest)
            primes = sorted(set(prime_factors(number)))
            told = [k for k in range(14, 600) if k % 6 == rest and any(k % prime == 0 for prime in primes)]
            self.assertEqual(members(sizes, 14, 600), told, number)
            self.assertEqual((sizes.start, sizes.early), (14, ()))
            # The rest by 6 tells already of 2 and 3; if these divide all sizes, no other divisor counts.
            period = 6
            for prime in primes:
                period *= prime if prime > 3 and rest == 5 else 1
            self.assertEqual(sizes.period, period)

    def test_plain_programs(self):
        for text in ("period 1 / rest 0 same exchange 0 -1", "period 1 / rest 0 same exchange half half to the end"):
            sizes = failing(Program(plain_of(text).text), 0)
            self.assertEqual((sizes.start, sizes.period, sizes.rests, sizes.early, sizes.least), (14, 1, (0,), (), 14))


if __name__ == "__main__":
    unittest.main()
