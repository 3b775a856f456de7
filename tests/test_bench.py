"""[45] to [48]: benches, their deeds and questions, and the pages that tell them."""

import itertools
import unittest
from math import factorial

from everyorder.bench import Bench
from everyorder.errors import BadNumber, BadRow, BadSize, BadText, NotWhole, NothingToUndo
from everyorder.orders import number, order
from everyorder.programs import Program
from everyorder.tells import double
from closed import closed_plain, right_plains
from helping import NO_INTEGERS, assert_raises
from leveling import drawing, drawn_plain, plain_of
from telling import HALVES, HEAP, ROLL, STUCK, TURN, WHOLE, WRONG, tell, text_of

MIRROR = "period 2 / rest 0 along -1 -2 / rest 1 same exchange 0 -1"


def some_plains(seed, many):
    draw = drawing(seed)
    return [plain_of(text) for text in (*WHOLE, WRONG, STUCK, HALVES)] + [
        drawn_plain(draw, 5) if draw.random() < 0.6 else closed_plain(draw) for _ in range(many)]


def one_line(plain):
    return "take " + plain.text.replace("\n", " / ")


class PlainBench:
    """A bench by plain telling: all rows are told, and the states are kept."""

    def __init__(self, plain, n):
        self.n = n
        self.plain = self.first = plain
        self.beginning = tuple(range(n))
        self.number = 0
        self.rows = tell(plain, n)[0]
        self.past = []
        self.lines = []

    @property
    def row(self):
        return self.told(self.number)

    def told(self, number):
        return tuple(self.beginning[thing] for thing in self.rows[number])

    def keep(self, line):
        self.past.append((self.plain, self.beginning, self.number, self.rows))
        self.lines.append(line)

    def go(self, line, number):
        self.keep(line)
        self.number = number

    def take(self, plain):
        row = self.row
        self.keep(one_line(plain))
        self.plain, self.beginning, self.number, self.rows = plain, row, 0, tell(plain, self.n)[0]

    def undo(self):
        self.plain, self.beginning, self.number, self.rows = self.past.pop()
        self.lines.pop()

    @property
    def page(self):
        return "\n".join([f"size {self.n}", one_line(self.first), *self.lines])


def hold(test, bench, plain):
    """Hold that the bench is what plain telling gives."""
    test.assertIs(type(bench.row), tuple)
    test.assertEqual((bench.row, bench.number, bench.size), (plain.row, plain.number, plain.n))
    test.assertEqual(bench.program, Program(plain.plain.text))
    test.assertEqual(len(bench), len(plain.lines))
    test.assertEqual(bench.page, plain.page)


def do_drawn(draw, bench, plain, plains):
    """Do a drawn deed with both; return what the bench returned."""
    last = len(plain.rows) - 1
    kind = draw.choice(("on", "on", "back", "to", "take", "undo"))
    if kind == "on" and plain.number < last:
        many = draw.randint(1, last - plain.number)
        if many == 1 or draw.random() < 0.3:
            plain.go("on 1", plain.number + 1)
            return bench.on()
        plain.go(f"on {many}", plain.number + many)
        return bench.on(many)
    if kind == "back" and plain.number:
        many = draw.choice((1, draw.randint(1, plain.number)))
        plain.go(f"back {many}", plain.number - many)
        return bench.back() if many == 1 else bench.back(many)
    if kind == "to":
        at = draw.randint(0, last)
        plain.go(f"to {at}", at)
        return bench.to(at)
    if kind == "take":
        other = draw.choice((plain.plain, draw.choice(plains)))
        plain.take(other)
        return bench.take(Program(other.text))
    if kind == "undo" and plain.lines:
        plain.undo()
        return bench.undo()
    return None


def drawn_benches(seed, many, deeds=12):
    """Benches with drawn deeds, each with the plain one, for 1 to 5 things."""
    draw = drawing(seed)
    plains = some_plains(seed, 25)
    for _ in range(many):
        n = draw.randint(1, 5)
        first = draw.choice(plains)
        bench, plain = Bench(Program(first.text), n), PlainBench(first, n)
        for _ in range(draw.randint(0, deeds)):
            do_drawn(draw, bench, plain, plains)
        yield bench, plain


class ExampleTest(unittest.TestCase):
    def test_example(self):
        heap = Program(text_of(HEAP))
        bench = Bench(heap, 4)
        bench.on(6)
        self.assertEqual(bench.row, (3, 1, 0, 2))
        bench.take(heap)
        bench.on()
        self.assertEqual(bench.row, (1, 3, 0, 2))
        take = "take period 2 / rest 0 along 1 0 / rest 1 same exchange 0 -1"
        self.assertEqual(bench.page, "\n".join(["size 4", take, "on 6", take, "on 1"]))


class DeedTest(unittest.TestCase):
    def test_drawn_deeds(self):
        draw = drawing(331)
        plains = some_plains(332, 25)
        for at in range(120):
            n = 1 + at % 5
            first = draw.choice(plains)
            bench, plain = Bench(Program(first.text), n), PlainBench(first, n)
            hold(self, bench, plain)
            for _ in range(15):
                self.assertIsNone(do_drawn(draw, bench, plain, plains))
                hold(self, bench, plain)
            while plain.lines:
                plain.undo()
                self.assertIsNone(bench.undo())
                hold(self, bench, plain)
            with self.assertRaises(NothingToUndo):
                bench.undo()
            hold(self, bench, plain)

    def test_refused_deeds_are_none(self):
        for bench, plain in drawn_benches(333, 60):
            last = factorial(plain.n) - 1
            for value in (0, -1, last - plain.number + 1, 10 ** 200, -10 ** 200, *NO_INTEGERS):
                assert_raises(self, BadNumber, "number", value, bench.on, value)
            for value in (0, -1, plain.number + 1, 10 ** 200, *NO_INTEGERS):
                assert_raises(self, BadNumber, "number", value, bench.back, value)
            for value in (-1, last + 1, 10 ** 200, *NO_INTEGERS):
                assert_raises(self, BadNumber, "number", value, bench.to, value)
            if plain.number == last:
                assert_raises(self, BadNumber, "number", 1, bench.on)
            if plain.number == 0:
                assert_raises(self, BadNumber, "number", 1, bench.back)
            hold(self, bench, plain)

    def test_bounds(self):
        for n in (2, 5, 39, 100):
            bench = Bench(Program(text_of(HEAP)), n)
            last = factorial(n) - 1
            for deed, values in ((bench.to, (0, last)), (bench.back, (last,)), (bench.on, (last,))):
                for value in values:
                    deed(value)
            self.assertEqual((bench.number, len(bench)), (last, 4))
            self.assertEqual(bench.row, tuple(order(Program(text_of(HEAP)), n, last)))

    def test_sizes(self):
        for value in (0, -1, 101, 10 ** 30, *NO_INTEGERS):
            assert_raises(self, BadSize, "size", value, Bench, Program(text_of(HEAP)), value)
        self.assertEqual((Bench(Program(text_of(HEAP)), 1).row, Bench(Program(text_of(HEAP)), 100).size), ((0,), 100))

    def test_many_things_by_the_digits_of_the_number(self):
        """Each level rolls all places and leaves the row as it was: the number tells by how much each has rolled."""
        draw = drawing(334)
        for n in range(6, 40):
            bench = Bench(Program(text_of(ROLL)), n)
            row = list(range(n))
            for _ in range(3):
                at = draw.randrange(factorial(n))
                bench.to(at)
                self.assertEqual(bench.row, tuple(rolled_row(row, at)))
                bench.take(Program(text_of(ROLL)))
                row = list(bench.row)
                more = draw.randrange(1, factorial(n))
                bench.on(more)
                self.assertEqual(bench.row, tuple(rolled_row(row, more)))
                bench.undo()
                self.assertEqual((bench.row, bench.number), (tuple(row), 0))


def rolled_row(row, number):
    """The row with a number of the program that rolls all places by one, to the end."""
    row = list(row)
    digits = []
    for k in range(2, len(row) + 1):
        number, digit = divmod(number, k)
        digits.append((k, digit))
    for k, digit in reversed(digits):
        for _ in range(digit):
            row[:k] = [row[k - 1], *row[:k - 1]]
    return row


class QuestionTest(unittest.TestCase):
    def test_next_rows(self):
        for bench, plain in drawn_benches(335, 80):
            last = factorial(plain.n) - 1
            for many in (0, 1, 2, 7, 100, 1000):
                rows = bench.next_rows(many)
                self.assertIs(type(rows), list)
                self.assertEqual(rows, [plain.told(at) for at in range(plain.number + 1,
                                                                       min(plain.number + many, last) + 1)])
                self.assertTrue(all(type(row) is tuple for row in rows))
            for value in (-1, 1001, 10 ** 30, *NO_INTEGERS):
                assert_raises(self, BadNumber, "number", value, bench.next_rows, value)
            hold(self, bench, plain)

    def test_next_rows_are_what_deeds_tell(self):
        draw = drawing(336)
        for text in (HEAP, TURN, WRONG, WHOLE[5]):
            for n in (6, 20, 39, 100):
                bench = Bench(Program(text_of(text)), n)
                bench.to(draw.choice((0, draw.randrange(factorial(n)), factorial(n) - 5)))
                told = bench.next_rows(8)
                rows = []
                while bench.number < factorial(n) - 1 and len(rows) < 8:
                    bench.on()
                    rows.append(bench.row)
                self.assertEqual(told, rows)
                self.assertEqual(bench.next_rows(0), [])

    def test_until(self):
        seen = set()
        for bench, plain in drawn_benches(337, 80):
            wrong = double(Program(plain.plain.text), plain.n)
            rows = list(itertools.permutations(range(plain.n)))
            for row in rows[::1 + len(rows) // 12] + [plain.row]:
                if wrong is not None:
                    assert_raises(self, NotWhole, "size", wrong.size, bench.until, row)
                    continue
                told = bench.until(list(row) if len(row) % 2 else row)
                behind = [at for at in range(plain.number, len(plain.rows)) if plain.told(at) == row]
                self.assertEqual(told, behind[0] - plain.number if behind else None)
                seen.add(told is None)
            hold(self, bench, plain)
        self.assertEqual(seen, {True, False})

    def test_until_by_deeds(self):
        draw = drawing(338)
        for text in (HEAP, TURN, ROLL):
            for n in (7, 39, 100):
                bench = Bench(Program(text_of(text)), n)
                bench.to(draw.randrange(factorial(n) // 2))
                bench.take(Program(text_of(text)))
                start, goal = sorted(draw.sample(range(1, 10 ** 6 if n > 10 else factorial(n)), 2))
                bench.to(goal)
                row = bench.row
                bench.to(start)
                self.assertEqual(bench.until(row), goal - start)
                self.assertEqual(bench.until(bench.row), 0)
                bench.on(goal - start)
                self.assertEqual(bench.row, row)
                bench.on()
                self.assertIsNone(bench.until(row))

    def test_wrong_rows(self):
        for bench, plain in drawn_benches(339, 50):
            n, row = plain.n, list(plain.row)
            for index in range(n):
                for value in (-1, n, 10 ** 30, *NO_INTEGERS, *row[:index]):
                    handed = [*row[:index], value, *row[index + 1:]]
                    assert_raises(self, BadRow, "index", index, bench.until, handed)
                    assert_raises(self, BadRow, "index", index, bench.until, (*handed[:index + 1], 0, 0, 0))
                assert_raises(self, BadRow, "index", index, bench.until, row[:index])
            for value in (0, n, "x"):
                assert_raises(self, BadRow, "index", n, bench.until, [*row, value])
            hold(self, bench, plain)


class EqualityTest(unittest.TestCase):
    def test_by_their_states(self):
        told = list(drawn_benches(340, 70, 3))
        for (one, of_one), (other, of_other) in itertools.product(told, repeat=2):
            alike = (of_one.plain.text, of_one.n, of_one.row, of_one.number) == (
                of_other.plain.text, of_other.n, of_other.row, of_other.number)
            self.assertIs(one == other, alike)
            self.assertIs(one != other, not alike)

    def test_other_ways_to_one_state(self):
        heap = Program(text_of(HEAP))
        one, other = Bench(heap, 4), Bench(heap, 4)
        one.on(6)
        other.to(9)
        other.back(3)
        self.assertTrue(one == other)
        self.assertNotEqual(one.page, other.page)
        one.take(heap)
        self.assertFalse(one == other)
        other.take(Program(text_of(MIRROR)))
        self.assertFalse(one == other)
        for value in (None, one.row, 4, one.page, heap):
            self.assertFalse(one == value)
            self.assertTrue(one != value)


TAKE = "take period 1 / rest 0 same turn"


class PageTest(unittest.TestCase):
    def test_read(self):
        for bench, plain in drawn_benches(341, 120):
            other = Bench.read(plain.page)
            self.assertIs(type(other), Bench)
            hold(self, other, plain)
            self.assertTrue(bench == other)
            while plain.lines:
                plain.undo()
                other.undo()
                bench.undo()
                hold(self, other, plain)
            self.assertTrue(bench == other)

    def test_lines_that_no_page_has(self):
        last = factorial(4) - 1
        wrong = ("", " ", "on", "on ", "on 0", "on 01", "on -1", "on +1", "on 1 ", " on 1", "on  1", "on 1.0", "on x",
                 "On 1", f"on {last + 1}", "on \u0661", "on 1_0", "on \u00b2", "back 1", "back 0", "to -1", "to 00",
                 "to 024", f"to {last + 1}", "to", "to x", "undo", "take", "take ", "take period 1", "size 4",
                 "take period 1 / rest 0 same", "take  period 1 / rest 0 same turn", TAKE + " ", TAKE + " / ",
                 "take period 1/rest 0 same turn", "take period 1 /  rest 0 same turn",
                 "Take period 1 / rest 0 same turn",
                 "take period 1 / rest 0 list 0", "on " + "9" * 5000, "to " + "1" * 200, "on 1\r", "on 1\t", "to 0x1",
                 "take period 1 / rest 0 same turn / level 13 same turn", "on 1 on 1", "5", "on\u00a01")
        for line in wrong:
            page = "\n".join(["size 4", TAKE, line])
            assert_raises(self, BadText, "line", 3, Bench.read, page)
            assert_raises(self, BadText, "line", 3, Bench.read, page + "\nnothing")
            assert_raises(self, BadText, "line", 4, Bench.read, "\n".join(["size 4", TAKE, "to 0", line]))
        for line in ("", "on 1", "size 4", "take", "take period 1 / rest 0 same", TAKE + " ", "period 1", " " + TAKE):
            assert_raises(self, BadText, "line", 2, Bench.read, f"size 4\n{line}")
            assert_raises(self, BadText, "line", 2, Bench.read, f"size 4\n{line}\nx")
        for line in ("", "size", "size ", "size 0", "size 101", "size 04", "size 4 ", " size 4", "size  4", "Size 4",
                     "size -1", "size x", "size " + "9" * 5000, TAKE, "size \u0664"):
            for rest in ("", "\n" + TAKE, "\nx"):
                assert_raises(self, BadText, "line", 1, Bench.read, line + rest)
        assert_raises(self, BadText, "line", 2, Bench.read, "size 4")
        assert_raises(self, BadText, "line", 3, Bench.read, f"size 4\n{TAKE}\n")

    def test_right_lines(self):
        for size in (1, 9, 10, 99, 100):
            page = f"size {size}\n{TAKE}"
            self.assertEqual(Bench.read(page).page, page)
        page = f"size 100\n{TAKE}\nto {factorial(100) - 1}\nback {factorial(100) - 1}\non 1\n{TAKE}\nto 0"
        self.assertEqual(Bench.read(page).page, page)

    def test_spoiled_pages(self):
        """Of a spoiled page a bench with just this page comes, or BadText with the line up to which it is none."""
        draw = drawing(342)
        seen = {True: 0, False: 0}
        for bench, plain in drawn_benches(343, 150):
            page = bench.page
            self.assertEqual(page, plain.page)
            for _ in range(8):
                spoiled = spoil(draw, page)
                wrong = first_wrong_line(spoiled)
                seen[wrong is None] += 1
                if wrong is None:
                    self.assertEqual(Bench.read(spoiled).page, spoiled)
                else:
                    assert_raises(self, BadText, "line", wrong, Bench.read, spoiled)
        self.assertGreater(min(seen.values()), 50)


def spoil(draw, page):
    lines = page.split("\n")
    at = draw.randrange(len(lines))
    kind = draw.randrange(8)
    if kind == 0:
        place = draw.randrange(len(page) + 1)
        return page[:place] + draw.choice("0123456789 /-xt\n") + page[place:]
    if kind == 1:
        place = draw.randrange(len(page))
        return page[:place] + page[place + 1:]
    if kind == 2:
        lines.insert(at, lines[at])
    elif kind == 3:
        del lines[at]
    elif kind == 4:
        lines.insert(draw.randrange(len(lines)), lines.pop(at))
    elif kind == 5:
        lines[at] = lines[at].replace(" ", "  ", 1)
    elif kind == 6:
        words = lines[at].split(" ")
        words[-1] = draw.choice(("0" + words[-1], "100000", "0", "1", "-1", ""))
        lines[at] = " ".join(words)
    else:
        lines[at] = draw.choice(("back 1", "on 1", "to 1", TAKE, "take period 2 / rest 0 same turn", "on 200", ""))
    return "\n".join(lines)


def first_wrong_line(page):
    """The first line that no bench's page has there, or whose deed is refused; None if there is none."""
    lines = page.split("\n")
    sizes = {f"size {size}": size for size in range(1, 101)}
    if lines[0] not in sizes:
        return 1
    last = factorial(sizes[lines[0]]) - 1
    at = 0
    for index, line in enumerate(lines[1:] + ([""] if len(lines) == 1 else []), start=2):
        head, _, told = line.partition(" ")
        if head == "take":
            try:
                Program(told.replace(" / ", "\n"))
            except BadText:
                return index
            at = 0
            continue
        if index == 2 or head not in ("on", "back", "to") or not told or set(told) - set("0123456789"):
            return index
        many = int(told)
        if told != str(many) or (head != "to" and many == 0):
            return index
        at = {"on": at + many, "back": at - many, "to": many}[head]
        if not 0 <= at <= last:
            return index
    return None


class WholeWayTest(unittest.TestCase):
    def test_to_the_last_row_and_on_with_the_program_again(self):
        for plain in right_plains()[::3]:
            program = Program(plain.text)
            for n in (3, 4, 30):
                bench = Bench(program, n)
                bench.to(factorial(n) - 1)
                last = bench.row
                bench.take(program)
                self.assertEqual((bench.row, bench.number), (last, 0))
                bench.on(factorial(n) - 1)
                self.assertEqual(bench.row, tuple(last[thing] for thing in last))
                self.assertEqual(number(program, n, list(last)), factorial(n) - 1)


if __name__ == "__main__":
    unittest.main()
