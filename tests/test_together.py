"""All parts of the program together: one plain run, and what each part tells of it."""

import unittest
from math import factorial

from everyorder.alike import alike, parting
from everyorder.always import closing, failing, is_round, parts_at, wrong_at
from everyorder.bench import Bench
from everyorder.counts import calls_of, changes, exchanges, most_changed, steps_done
from everyorder.mends import is_right, mended, nearest
from everyorder.orders import number, numbers, order, steps, told_from
from everyorder.programs import Program
from everyorder.runs import nothing_runs
from everyorder.shapes import is_whole, made_by, open_at
from everyorder.tells import Double, before, does, double, lasts, twice
from everyorder.times import count_at, count_left, next_at, nth_at
from closed import closed_plain, plain_open_at, right_plains
from leveling import Plain, drawing, drawn_plain, partner_of, plain_of, split_level, step_of
from running import list_of
from telling import HALVES, HEAP, STUCK, WHOLE, WRONG, first_double, tell
from test_alike import other_words

FAR = (61, 100, 998, 10 ** 15, 10 ** 30 - 1, 10 ** 30)


def some_plains(seed, many):
    draw = drawing(seed)
    return [plain_of(text) for text in (*WHOLE, WRONG, STUCK, HALVES)] + [
        drawn_plain(draw, 6) if at % 2 else closed_plain(draw, (3, 5)) for at in range(many)]


class PlainRunTest(unittest.TestCase):
    def test_rows(self):
        for plain in some_plains(351, 30):
            program = Program(plain.text)
            for n in range(1, 6):
                rows, end = tell(plain, n)
                self.assertEqual([tuple(order(program, n, i)) for i in range(len(rows))], rows)
                self.assertEqual([tuple(row) for row in told_from(program, n, 0)], rows)
                bench = Bench(program, n)
                self.assertEqual([bench.row, *bench.next_rows(1000)], rows)
                self.assertEqual(does(program, n), end)
                self.hold_steps(plain, n, rows, end)

    def hold_steps(self, plain, n, rows, end):
        program = Program(plain.text)
        done = []
        for y in range(1, len(rows) + 1):
            row = list(rows[y - 1])
            for k, i in steps(program, n, y):
                self.assertEqual(program.step(k, i), step_of(plain.level(k), k, i))
                row[:k] = [row[place] for place in program.step(k, i)]
                done.append((k, i))
            self.assertEqual(row, end if y == len(rows) else list(rows[y]))
        self.assertEqual(steps_done(program, n), len(done))
        for x in range(n):
            for y in range(x):
                many = sum([place for place, goal in enumerate(program.step(k, i)) if place != goal] == [y, x]
                           for k, i in done)
                self.assertEqual(exchanges(program, n, x, y), many)
        told = {}
        for row, after in zip(rows, rows[1:]):
            moved = sum(a != b for a, b in zip(row, after))
            told[moved] = told.get(moved, 0) + 1
        self.assertEqual(changes(program, n), told)
        self.assertEqual(most_changed(program, n), max(told, default=0))

    def test_levels_and_doubles(self):
        for plain in some_plains(352, 30):
            program = Program(plain.text)
            whole = True
            for n in range(2, 6):
                rows, _ = tell(plain, n)
                part = factorial(n - 1)
                heads = [rows[d * part] for d in range(n)]
                self.assertEqual([tuple(before(program, n, d)) for d in range(n)], heads)
                things = tuple(row[n - 1] for row in heads)
                self.assertEqual(lasts(program, n), things)
                self.assertIs(is_whole(program, n), len(set(things)) == n)
                whole = whole and len(set(things)) == n
                self.assertEqual(twice(program, n), first_double(rows))
                self.assertIs(double(program, n) is None, whole)
                self.assertIs(len(set(rows)) == factorial(n), whole)
                if whole:
                    for i in range(0, len(rows), 7):
                        self.assertEqual((number(program, n, rows[i]), numbers(program, n, rows[i])), (i, (i,)))
                        self.assertEqual(count_at(program, n, 0, rows[i][0], i + 1),
                                         sum(row[0] == rows[i][0] for row in rows[:i + 1]))
                        self.assertEqual(next_at(program, n, n - 1, rows[i][n - 1], i), i)
                        self.assertEqual(count_left(program, n, rows[i][0], rows[i][1], i + 1), sum(
                            row.index(rows[i][0]) < row.index(rows[i][1]) for row in rows[:i + 1]))
                    self.assertEqual(list_of(made_by(program, n)), does(program, n))
                    self.assertEqual(nth_at(program, n, 0, rows[-1][0], part - 1), len(rows) - 1)


class RightTest(unittest.TestCase):
    """Programs that are right for every n, with their lines told two or three times and in other spellings."""

    def variants(self, seed):
        draw = drawing(seed)
        for plain in right_plains():
            if len(plain.rests) <= 3:
                many = draw.choice([times for times in (1, 2, 3) if times * len(plain.rests) <= 6])
                other = Plain([other_words(draw, text) for text in plain.rests * many], {})
                # An exchange beneath an along level stays one, or the program is not closed.
                while plain_open_at(other) is not None:
                    other = Plain([other_words(draw, text) for text in plain.rests * many], {})
                yield plain, other

    def test_nothing_is_wrong(self):
        for plain, other in self.variants(353):
            for program in (Program(plain.text), Program(other.text)):
                self.assertIsNone(open_at(program))
                self.assertIsNone(wrong_at(program))
                self.assertIsNone(parts_at(program, 1))
                self.assertIsNone(double(program, 60))
                self.assertIsNone(twice(program, 60))
                self.assertEqual(mended(program, 12), program)
                for rest in range(program.period):
                    self.assertEqual((failing(program, rest).rests, failing(program, rest).least), ((), None))
                self.assertTrue(all(is_whole(program, k) for k in (*range(2, 30), *FAR)))

    def test_all_parts_tell_the_same(self):
        draw = drawing(354)
        for plain, other in self.variants(355):
            one, two = Program(plain.text), Program(other.text)
            self.assertIsNone(alike(one, two))
            self.assertIsNone(parting(one, two, 100))
            for n in (1, 2, 5, 14, 33):
                i = draw.randrange(factorial(n))
                row = order(one, n, i)
                self.assertEqual(order(two, n, i), row)
                self.assertEqual((number(one, n, row), number(two, n, row)), (i, i))
                self.assertEqual(steps(one, n, i + 1), steps(two, n, i + 1))
                self.assertEqual(does(one, n), does(two, n))
                self.assertEqual(made_by(one, n), made_by(two, n))
                self.assertEqual(changes(one, n), changes(two, n))
                self.assertEqual(count_at(one, n, 0, n - 1, i), count_at(two, n, 0, n - 1, i))
                bench, beside = Bench(one, n), Bench(two, n)
                bench.to(i)
                beside.to(i)
                self.assertEqual((bench.row, bench.next_rows(30)), (beside.row, beside.next_rows(30)))
            for stop in (1, 2, 3, 13, 20):
                self.assertEqual(parts_at(one, stop), parts_at(two, stop))
            for n in FAR:
                self.assertEqual(made_by(one, n), made_by(two, n))
                self.assertEqual(is_round(one, n), is_round(two, n))

    def test_what_levels_do_is_taken_back(self):
        for plain, _ in self.variants(356):
            program = Program(plain.text)
            for n in (*range(1, 40), *FAR):
                self.assertEqual(closing(program, n) * made_by(program, n), nothing_runs(n))
                self.assertEqual(made_by(program, n) * closing(program, n), nothing_runs(n))

    def test_benches_that_go_round(self):
        """From the last row a bench goes on with the same program; its closing steps lead back."""
        for plain, _ in self.variants(357):
            program = Program(plain.text)
            for n in (2, 3, 4, 5, 24):
                bench = Bench(program, n)
                bench.on(factorial(n) - 1)
                row = list(bench.row)
                for k, i in steps(program, n, factorial(n)):
                    row[:k] = [row[place] for place in program.step(k, i)]
                self.assertEqual([row[place] for place in list_of(closing(program, n))], list(range(n)))
                last = bench.row
                bench.take(program)
                bench.on(3 % factorial(n) or 1)
                self.assertEqual(bench.row, tuple(last[thing] for thing in order(program, n, 3 % factorial(n) or 1)))
                self.assertEqual(Bench.read(bench.page).page, bench.page)
                self.assertEqual(Bench.read(bench.page), bench)


class MendedTest(unittest.TestCase):
    def test_programs_that_are_mended(self):
        draw = drawing(358)
        found = 0
        for _ in range(60):
            plain = closed_plain(draw)
            plain.singles = {size: f"list {' '.join(str(draw.randrange(size - 1)) for _ in range(size - 1))}"
                             for size in range(2, 13)}
            program = Program(plain.text)
            other = mended(program, 12)
            self.assertIsNone(double(other, 12))
            told = double(program, 12)
            if told is not None:
                found += 1
                k = told.size
                self.assertGreater(nearest(program, k)[0], 0)
                self.assertFalse(is_right(program, k, program.level(k).entries))
                self.assertTrue(is_right(other, k, other.level(k).entries))
                self.assertEqual(wrong_at(program), told)
                self.assertEqual(alike(program, other), (k, parting(program, other, k)))
            if double(other, 100) is not None:
                self.assertEqual(wrong_at(other), double(other, 100))
        self.assertGreater(found, 30)

    def test_along_levels_as_lists(self):
        for text in (HEAP, WHOLE[4], WHOLE[5]):
            plain = plain_of(text)
            singles = {}
            for size in range(2, 13):
                parts, to_end = split_level(plain.level(size))
                if parts[0] == "along" and not to_end:
                    places = [str(partner_of(plain.level(size), size, i)) for i in range(size - 1)]
                    singles[size] = f"list {' '.join(places)}"
            program, listed = Program(plain.text), Program(Plain(plain.rests, singles).text)
            self.assertIsNone(alike(program, listed))
            self.assertEqual(calls_of(5, 2), 60)
            self.assertEqual(wrong_at(program), wrong_at(listed))


class HeapTest(unittest.TestCase):
    def test_one_program_through_all_parts(self):
        heap = Program(HEAP.replace(" / ", "\n"))
        self.assertEqual(parts_at(heap, 2), Double(3, 0, 2))
        self.assertEqual(changes(heap, 100), {2: factorial(100) - 1})
        self.assertEqual(steps_done(heap, 100), factorial(100) - 1)
        self.assertTrue(all(is_round(heap, n) for n in (2, 3, 5, 101, 10 ** 30 - 1)))


if __name__ == "__main__":
    unittest.main()
