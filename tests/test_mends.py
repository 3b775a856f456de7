"""[39] to [41]: lists that make a level whole, and programs that are mended."""

import itertools
import unittest
from math import factorial

from everyorder.errors import BadRow, BadSize, NoList
from everyorder.mends import is_right, mended, nearest, right_lists
from everyorder.programs import Program
from everyorder.tells import does, lasts
from closed import closed_plain, last_things
from helping import NO_INTEGERS, assert_raises
from leveling import Plain, drawing, drawn_plain, partner_of, plain_of, split_level
from telling import HEAP, STUCK, TURN, levels_told, tell, text_of

TWICE = "period 2 / rest 0 along 1 0 / rest 1 along 1 0"
NO_SIZES = (1, 0, -1, 101, 10 ** 30, *NO_INTEGERS)


def goes_by_list(text):
    parts, to_end = split_level(text)
    return parts[0] != "same" and not to_end


def listed(k, entries):
    return f"list {' '.join(map(str, entries))}"


def whole_by_list(beneath, k, entries):
    """Whether a level is whole, leading the last place plainly through the calls."""
    row = list(range(k))
    things = []
    for i in range(k):
        things.append(row[k - 1])
        row[:k - 1] = [row[place] for place in beneath]
        if i < k - 1:
            row[entries[i]], row[k - 1] = row[k - 1], row[entries[i]]
    return len(set(things)) == k


def list_plain(draw, most=8):
    """A program of which many levels go by lists."""
    rests = [draw.choice(("along 1 0", "along -1 -2", "along 2 half", "along 3 1", "same exchange 0 -1", "same turn",
                          "same roll 0 -1 1 to the end", "along 1 1 to the end")) for _ in range(draw.randint(1, 4))]
    singles = {}
    for size in range(2, most + 1):
        if draw.random() < 0.5:
            singles[size] = listed(size, [draw.randrange(size - 1) for _ in range(size - 1)])
    return Plain(rests, singles)


class ExampleTest(unittest.TestCase):
    def test_examples_by_hand(self):
        wrong = Program(text_of(TWICE))
        self.assertEqual(nearest(wrong, 3), (1, (0, 0)))
        self.assertEqual(right_lists(3), 2)
        self.assertEqual(mended(wrong, 3).text, text_of(TWICE) + "\nlevel 3 list 0 0")
        # Level 3 does [2, 0, 1].
        for program in programs_doing([2, 0, 1]):
            self.assertEqual(nearest(program.with_level(4, "list 0 1 0"), 4), (1, (0, 0, 0)))


def programs_doing(row):
    """Programs whose level 3 does this."""
    found = []
    for one, other in itertools.product(("exchange 0 0", "exchange 0 1", "roll 0 -1 1", "roll 0 -1 2", "exchange 0 2",
                                         "exchange 1 2", "turn"), repeat=2):
        for end in ("", " to the end"):
            program = Program(f"period 1\nrest 0 same {one}\nlevel 3 same {other}{end}")
            if does(program, 3) == row:
                found.append(program)
    return found


class NearestTest(unittest.TestCase):
    def test_all_lists_of_few_places(self):
        """As few changes as any right list needs, and the list that is told."""
        draw = drawing(311)
        self.assertGreater(len(programs_doing([2, 0, 1])), 0)
        for _ in range(60):
            plain = list_plain(draw)
            program = Program(plain.text)
            told = levels_told(plain, 5)
            for k in range(2, 6):
                if not goes_by_list(plain.level(k)):
                    assert_raises(self, NoList, "size", k, nearest, program, k)
                    continue
                beneath = told[k - 1][1]
                entries = [partner_of(plain.level(k), k, i) for i in range(k - 1)]
                right = [other for other in itertools.product(range(k - 1), repeat=k - 1)
                         if whole_by_list(beneath, k, other)]
                self.assertEqual(len(right), right_lists(k))
                many, best = nearest(program, k)
                self.assertIs(type(best), tuple)
                self.assertIn(best, right)
                changed = sum(a != b for a, b in zip(entries, best))
                self.assertEqual(many, changed)
                self.assertEqual(many, min(sum(a != b for a, b in zip(entries, other)) for other in right))
                self.assertEqual((many, best), by_words(beneath, k, entries))

    def test_great_levels(self):
        draw = drawing(312)
        for plain in [closed_plain(draw) for _ in range(12)] + [list_plain(draw, 12) for _ in range(12)]:
            program = Program(plain.text)
            told = levels_told(plain, 40)
            for k in (7, 11, 12, 13, 14, 27, 40):
                if goes_by_list(plain.level(k)):
                    entries = [partner_of(plain.level(k), k, i) for i in range(k - 1)]
                    many, best = nearest(program, k)
                    self.assertEqual((many, best), by_words(told[k - 1][1], k, entries))
                    self.assertTrue(whole_by_list(told[k - 1][1], k, best))
                    self.assertTrue(is_right(program, k, best))
                    self.assertIs(many == 0, is_right(program, k, entries))
                else:
                    assert_raises(self, NoList, "size", k, nearest, program, k)
            self.assertEqual(program, Program(plain.text))

    def test_a_hundred(self):
        for text in (HEAP, TWICE, "period 1 / rest 0 along 3 half"):
            many, best = nearest(Program(text_of(text)), 100)
            self.assertEqual(len(best), 99)
            self.assertTrue(is_right(Program(text_of(text)), 100, best))
            self.assertIs(many == 0, text == HEAP)

    def test_refusals(self):
        for text in (HEAP, TURN, TWICE):
            for value in NO_SIZES:
                assert_raises(self, BadSize, "size", value, nearest, Program(text_of(text)), value)
        for text in (TURN, "period 1 / rest 0 along 1 0 to the end", "period 1 / rest 0 same exchange 0 -1 to the end"):
            for k in (2, 3, 12, 13, 100):
                assert_raises(self, NoList, "size", k, nearest, Program(text_of(text)), k)
        program = Program("period 1\nrest 0 along 1 0\nlevel 4 list 0 0 1 2 to the end")
        assert_raises(self, NoList, "size", 4, nearest, program, 4)
        self.assertEqual(nearest(program, 2), (0, (0,)))


def by_words(beneath, k, entries):
    """What nearest tells, by the words of [39]."""
    power = list(range(k - 1))
    powers = []
    for _ in range(k - 1):
        power = [power[place] for place in beneath]
        powers.append(list(power))
    sources = [powers[i][entries[i]] for i in range(k - 1)]
    free = [place for place in range(k - 1) if place not in sources]
    told = []
    for i in range(k - 1):
        if sources[i] in sources[:i]:
            told.append(powers[i].index(free.pop(0)))
        else:
            told.append(entries[i])
    return sum(a != b for a, b in zip(entries, told)), tuple(told)


class RightTest(unittest.TestCase):
    def test_lists(self):
        draw = drawing(313)
        seen = {True: 0, False: 0}
        for _ in range(60):
            plain = drawn_plain(draw)
            program = Program(plain.text)
            told = levels_told(plain, 12)
            for k in (2, 3, 4, 5, 8, 13):
                beneath = told[k - 1][1]
                for _ in range(4):
                    entries = [draw.randrange(k - 1) for _ in range(k - 1)]
                    if draw.random() < 0.5 and k > 2:
                        entries = list(by_words(beneath, k, entries)[1])
                    handed = tuple(entries) if draw.random() < 0.5 else entries
                    right = whole_by_list(beneath, k, entries)
                    self.assertIs(is_right(program, k, handed), right)
                    if k <= 12:
                        things = lasts(program.with_level(k, listed(k, entries)), k)
                        self.assertIs(len(set(things)) == k, right)
                    seen[right] += 1
            self.assertEqual(program, Program(plain.text))
        self.assertGreater(min(seen.values()), 100)

    def test_wrong_lists(self):
        for text in (HEAP, STUCK, TURN):
            program = Program(text_of(text))
            for k in (2, 3, 5, 12, 100):
                right = [0] * (k - 1)
                for value in (-1, k - 1, k, 10 ** 30, *NO_INTEGERS):
                    for index in {0, k // 2 - 1, k - 2}:
                        handed = [*right[:index], value, *right[index + 1:]]
                        assert_raises(self, BadRow, "index", index, is_right, program, k, handed)
                        assert_raises(self, BadRow, "index", index, is_right, program, k, (*handed, 0, 0))
                        assert_raises(self, BadRow, "index", index, is_right, program, k, handed[:index + 1])
                for many in {0, 1, k // 2, k - 2}:
                    if many < k - 1:
                        assert_raises(self, BadRow, "index", many, is_right, program, k, right[:many])
                for further in ([0], [0, 0], ["x"], [None, 0]):
                    assert_raises(self, BadRow, "index", k - 1, is_right, program, k, right + further)
                is_right(program, k, right)

    def test_sizes(self):
        for value in NO_SIZES:
            assert_raises(self, BadSize, "size", value, is_right, Program(text_of(HEAP)), value, ["x"])
            assert_raises(self, BadSize, "size", value, right_lists, value)

    def test_right_lists(self):
        for k in range(2, 101):
            self.assertEqual(right_lists(k), factorial(k - 1))
        for text in (HEAP, STUCK, TURN):
            program = Program(text_of(text))
            for k in (2, 3, 4, 5):
                lists = itertools.product(range(k - 1), repeat=k - 1)
                self.assertEqual(sum(is_right(program, k, entries) for entries in lists), right_lists(k))


class MendedTest(unittest.TestCase):
    def test_drawn_programs(self):
        draw = drawing(314)
        seen = {True: 0, False: 0}
        for at in range(150):
            plain = list_plain(draw) if at % 3 else drawn_plain(draw)
            program = Program(plain.text)
            n = draw.randint(1, 12)
            told, wrong = mended_by_words(plain, n)
            if wrong is not None:
                assert_raises(self, NoList, "size", wrong, mended, program, n)
            else:
                other = mended(program, n)
                self.assertIs(type(other), Program)
                self.assertEqual(other.text, told.text)
                self.assertTrue(all(len(set(lasts(other, k))) == k for k in range(2, n + 1)))
                if n <= 6:
                    self.assertEqual(len(set(tell(plain_of(other.text), n)[0])), factorial(n))
            seen[wrong is None] += 1
            self.assertEqual(program, Program(plain.text))
        self.assertGreater(min(seen.values()), 20)

    def test_right_programs_stay(self):
        for text in (HEAP, TURN):
            for n in range(1, 13):
                self.assertEqual(mended(Program(text_of(text)), n), Program(text_of(text)))

    def test_refusals(self):
        for text in (HEAP, STUCK):
            for value in (0, -1, 13, 100, 10 ** 30, *NO_INTEGERS):
                assert_raises(self, BadSize, "size", value, mended, Program(text_of(text)), value)
        for n in range(3, 13):
            assert_raises(self, NoList, "size", 3, mended, Program(text_of(STUCK)), n)
        self.assertEqual(mended(Program(text_of(STUCK)), 2), Program(text_of(STUCK)))


def mended_by_words(plain, n):
    """The program that [41] tells, and None; or the size of the first level that can't be mended behind None."""
    told = Plain(plain.rests, plain.singles)
    doing = [0]
    for k in range(2, n + 1):
        things, row = last_things(told, k, doing)
        if len(set(things)) < k:
            if not goes_by_list(told.level(k)):
                return None, k
            entries = [partner_of(told.level(k), k, i) for i in range(k - 1)]
            told.singles[k] = listed(k, by_words(doing, k, entries)[1])
            row = last_things(told, k, doing)[1]
        doing = row
    return told, None


if __name__ == "__main__":
    unittest.main()
