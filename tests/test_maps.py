"""[3], [4]: rearrangements and their functions, and [2] as far as it speaks of them."""

import itertools
import unittest

from everyorder.errors import BadNumber, BadRow, BadSize
from everyorder.maps import done, is_even, joined, nothing, repeated, rings, undone
from helping import NO_INTEGERS, assert_raises

SIZES = (0, 1, 2, 3, 4, 5, 7, 12, 13, 24, 35, 60, 1000)


def mixed_row(size, seed):
    """A rearrangement without a plain pattern, the same one for equal arguments."""
    row = list(range(size))
    state = seed * 7919 + size + 1
    for last in range(size - 1, 0, -1):
        state = (state * 1103515245 + 12345) % 2 ** 31
        other = (state >> 8) % (last + 1)
        row[last], row[other] = row[other], row[last]
    return row


def some_rows(size):
    """Rearrangements of a size: plain ones, and some without a pattern."""
    told = [list(range(size)), list(range(size))[::-1]]
    told.append([(place + 1) % size for place in range(size)])
    told.append([place ^ 1 if place ^ 1 < size else place for place in range(size)])
    told.extend(mixed_row(size, seed) for seed in range(4))
    return told


def all_rows():
    for size in SIZES:
        for row in some_rows(size):
            yield row


def small_rows():
    for size in range(6):
        for row in itertools.permutations(range(size)):
            yield list(row)


def things_of(size):
    return [("thing", number) for number in range(size)]


def done_by_words(row, old):
    """The row that [3] tells: new[j] is old[f[j]]."""
    new = [None] * len(old)
    for j in range(len(old)):
        new[j] = old[row[j]]
    return new


def sign_by_pairs(row):
    """Whether the number of pairs that stand in the wrong order is even."""
    wrong = sum(row[i] > row[j] for i in range(len(row)) for j in range(i + 1, len(row)))
    return wrong % 2 == 0


class ExampleTest(unittest.TestCase):
    def test_examples_by_hand(self):
        self.assertEqual(done([2, 0, 1], ["a", "b", "c"]), ["c", "a", "b"])
        self.assertEqual(joined([1, 0, 2], [0, 2, 1]), [1, 2, 0])
        self.assertEqual(undone([2, 0, 1]), [1, 2, 0])
        self.assertEqual(rings([2, 0, 1, 3]), [(0, 2, 1), (3,)])
        self.assertEqual(repeated([2, 0, 1], 10 ** 30), [2, 0, 1])
        self.assertEqual(repeated([2, 0, 1], -1), [1, 2, 0])
        self.assertIs(is_even([2, 0, 1]), True)
        self.assertIs(is_even([]), True)
        assert_raises(self, BadRow, "index", 1, undone, [1, 3, 1])
        assert_raises(self, BadSize, "size", 1001, nothing, 1001)
        assert_raises(self, BadSize, "size", 1, joined, [0, 1], [0])


class NothingTest(unittest.TestCase):
    def test_all_sizes(self):
        for size in range(1001):
            self.assertEqual(nothing(size), [place for place in range(size)])
        self.assertIs(type(nothing(3)), list)

    def test_it_moves_nothing(self):
        for size in SIZES:
            self.assertEqual(done(nothing(size), things_of(size)), things_of(size))

    def test_wrong_sizes(self):
        for size in (-1, -2, 1001, 1002, 10 ** 30, -10 ** 30):
            assert_raises(self, BadSize, "size", size, nothing, size)
        for size in NO_INTEGERS:
            assert_raises(self, BadSize, "size", size, nothing, size)


class JoinedTest(unittest.TestCase):
    def test_first_and_then_second(self):
        for size in SIZES:
            for first, second in itertools.product(some_rows(size), repeat=2):
                both = joined(first, second)
                self.assertEqual(both, [first[second[j]] for j in range(size)])
                self.assertEqual(done(both, things_of(size)), done(second, done(first, things_of(size))))

    def test_all_small_ones(self):
        for size in range(5):
            for first, second in itertools.product(itertools.permutations(range(size)), repeat=2):
                things = things_of(size)
                self.assertEqual(done_by_words(joined(first, second), things),
                                 done_by_words(second, done_by_words(first, things)))

    def test_other_sizes(self):
        for first, second in itertools.permutations(((), (0,), (1, 0), (2, 0, 1), tuple(range(1000))), 2):
            assert_raises(self, BadSize, "size", len(second), joined, first, second)
            assert_raises(self, BadSize, "size", len(second), joined, list(first), list(second))


class UndoneTest(unittest.TestCase):
    def test_joined_with_it_in_any_order(self):
        for row in itertools.chain(all_rows(), small_rows()):
            back = undone(row)
            self.assertEqual(joined(row, back), list(range(len(row))))
            self.assertEqual(joined(back, row), list(range(len(row))))
            self.assertEqual(done(back, done(row, things_of(len(row)))), things_of(len(row)))

    def test_it_is_not_its_own(self):
        self.assertEqual(undone([1, 2, 3, 0]), [3, 0, 1, 2])


class DoneTest(unittest.TestCase):
    def test_where_things_come_from(self):
        for row in itertools.chain(all_rows(), small_rows()):
            things = things_of(len(row))
            self.assertEqual(done(row, things), done_by_words(row, things))
            self.assertEqual(done(tuple(row), tuple(things)), done_by_words(row, things))

    def test_things_of_any_kind(self):
        first, last = object(), []
        told = done([2, 1, 0], (first, None, last))
        self.assertIs(type(told), list)
        self.assertIs(told[0], last)
        self.assertIsNone(told[1])
        self.assertIs(told[2], first)
        self.assertEqual(done([1, 0], ["a", "a"]), ["a", "a"])

    def test_too_few_or_too_many_things(self):
        for row in ([], [0], [1, 0], [2, 0, 1], list(range(1000))):
            for many in (0, 1, 2, 3, 4, 999, 1000, 1001):
                if many != len(row):
                    assert_raises(self, BadSize, "size", many, done, row, ["a"] * many)
                    assert_raises(self, BadSize, "size", many, done, tuple(row), ("a",) * many)


class RepeatedTest(unittest.TestCase):
    def test_small_numbers_of_times(self):
        for row in all_rows():
            by_hand = list(range(len(row)))
            for many in range(9):
                self.assertEqual(repeated(row, many), by_hand)
                self.assertEqual(repeated(row, -many), undone(by_hand))
                by_hand = joined(by_hand, row)

    def test_all_small_ones(self):
        for row in small_rows():
            by_hand = list(range(len(row)))
            back = list(by_hand)
            for many in range(14):
                self.assertEqual(repeated(row, many), by_hand)
                self.assertEqual(repeated(row, -many), back)
                by_hand = joined(by_hand, row)
                back = joined(back, undone(row))

    def test_zero_times(self):
        for row in all_rows():
            self.assertEqual(repeated(row, 0), list(range(len(row))))

    def test_numbers_of_forty_figures(self):
        for row in all_rows():
            for many in (10 ** 40 - 1, 3 ** 83 + 2, -10 ** 40 + 1, -7 ** 47):
                self.assertEqual(repeated(row, many), by_squares(row, many))

    def test_many_that_is_no_integer(self):
        for many in NO_INTEGERS:
            for row in ([], [0], [1, 0], (2, 0, 1)):
                assert_raises(self, BadNumber, "number", many, repeated, row, many)


def by_squares(row, many):
    """What a rearrangement does if it is done many times, by doing it twice and twice again."""
    power = list(row) if many >= 0 else [row.index(place) for place in range(len(row))]
    told = list(range(len(row)))
    for bit in bin(abs(many))[:1:-1]:
        if bit == "1":
            told = [told[place] for place in power]
        if bit == "b":
            break
        power = [power[place] for place in power]
    return told


class RingsTest(unittest.TestCase):
    def test_each_ring(self):
        for row in itertools.chain(all_rows(), small_rows()):
            told = rings(row)
            self.assertIs(type(told), list)
            for ring in told:
                self.assertIs(type(ring), tuple)
                self.assertEqual(ring[0], min(ring))
                for place, following in zip(ring, ring[1:] + ring[:1]):
                    self.assertEqual(row[place], following)

    def test_each_place_once_and_in_order(self):
        for row in itertools.chain(all_rows(), small_rows()):
            told = rings(row)
            self.assertEqual(sorted(place for ring in told for place in ring), list(range(len(row))))
            leasts = [ring[0] for ring in told]
            self.assertEqual(leasts, sorted(leasts))

    def test_plain_ones(self):
        self.assertEqual(rings([]), [])
        self.assertEqual(rings([0]), [(0,)])
        self.assertEqual(rings([0, 1, 2]), [(0,), (1,), (2,)])
        self.assertEqual(rings([3, 2, 1, 0]), [(0, 3), (1, 2)])
        self.assertEqual(rings([1, 2, 3, 4, 0]), [(0, 1, 2, 3, 4)])
        self.assertEqual(rings((4, 3, 0, 1, 2)), [(0, 4, 2), (1, 3)])
        self.assertEqual(rings([(place + 1) % 1000 for place in range(1000)]), [tuple(range(1000))])


class IsEvenTest(unittest.TestCase):
    def test_by_pairs_in_the_wrong_order(self):
        for row in itertools.chain(all_rows(), small_rows()):
            if len(row) <= 60:
                self.assertIs(is_even(row), sign_by_pairs(row))
                self.assertIs(is_even(tuple(row)), sign_by_pairs(row))

    def test_exchanges(self):
        row = list(range(1000))
        self.assertIs(is_even(row), True)
        row[0], row[999] = row[999], row[0]
        self.assertIs(is_even(row), False)
        row[1], row[999] = row[999], row[1]
        self.assertIs(is_even(row), True)


# Each function with an argument `row`, with the other arguments that it needs.
ROW_CALLS = (
    ("undone", lambda row: undone(row)),
    ("done", lambda row: done(row, ["a"] * len(row))),
    ("repeated", lambda row: repeated(row, 3)),
    ("rings", lambda row: rings(row)),
    ("is_even", lambda row: is_even(row)),
    ("joined, first", lambda row: joined(row, list(range(len(row))))),
    ("joined, second", lambda row: joined(list(range(len(row))), row)),
    # Behind BadRow there is a further error each.
    ("done, too many things", lambda row: done(row, ["a"] * (len(row) + 1))),
    ("done, no things", lambda row: done(row, [])),
    ("repeated, no number", lambda row: repeated(row, None)),
    ("joined, first, other size", lambda row: joined(row, list(range(len(row) + 1)))),
    ("joined, second, other size", lambda row: joined(list(range(len(row) + 1)), row)),
    # The second row is wrong, too, ahead of where the first one may be.
    ("joined, both", lambda row: joined(row, [None] * len(row))),
)

WRONG_ROWS = (
    ([1], 0),
    ([-1], 0),
    ([0, 2], 1),
    ([2, 0], 0),
    ([0, 0], 1),
    ([1, 1, 1], 1),
    ([0, 1, 2, 3, 5], 4),
    ([0, 1, -1, 3], 2),
    ([-1, 1, 2], 0),
    ([1, 3, 1], 1),
    ([2, 0, 1, 2], 3),
    ([0, 10 ** 30], 1),
    ([1, 0, -10 ** 30], 2),
    ([True], 0),
    ([False], 0),
    ([0, True], 1),
    ([1, False], 1),
    ([None], 0),
    ([0, None, 2], 1),
    (["0"], 0),
    ([1, 0, "2"], 2),
    ([[0]], 0),
    ([1, [], 0], 1),
    ([0.0], 0),
    ([1, 0.0], 1),
    ([0, (1,), 2], 1),
    ([{}, 0], 0),
    ([0, 1, 2, None, 2], 3),
    ([0, 1, 1, None, 9], 2),
    (list(range(999)) + [998], 999),
    (list(range(999)) + [1000], 999),
    ([1000] + list(range(999)), 0),
)


class WrongRowTest(unittest.TestCase):
    def test_the_first_wrong_member(self):
        for name, call in ROW_CALLS:
            for row, index in WRONG_ROWS:
                with self.subTest(name=name, row=row[:6]):
                    assert_raises(self, BadRow, "index", index, call, row)
                    assert_raises(self, BadRow, "index", index, call, tuple(row))

    def test_each_place_of_a_row(self):
        for size in (1, 2, 3, 7):
            for index in range(size):
                for member in (size, size + 1, -1, -size, True, False, None, "0", [0], 0.0):
                    row = mixed_row(size, 1)
                    row[index] = member
                    for name, call in ROW_CALLS:
                        with self.subTest(name=name, row=row):
                            assert_raises(self, BadRow, "index", index, call, row)

    def test_a_member_that_has_come(self):
        for size in (2, 3, 7):
            for earlier, later in itertools.combinations(range(size), 2):
                row = mixed_row(size, 2)
                row[later] = row[earlier]
                for name, call in ROW_CALLS:
                    with self.subTest(name=name, row=row):
                        assert_raises(self, BadRow, "index", later, call, row)

    def test_the_first_row_ahead_of_the_second(self):
        assert_raises(self, BadRow, "index", 2, joined, [0, 1, 1], [5, 1, 2])
        assert_raises(self, BadRow, "index", 0, joined, [0, 1, 2], [5, 1, 2])
        assert_raises(self, BadRow, "index", 2, joined, [0, 1, 1], [None])
        assert_raises(self, BadRow, "index", 1, joined, [0, 1], [0, 0, 5])

    def test_a_member_within_the_length_of_its_own_row(self):
        assert_raises(self, BadRow, "index", 1, joined, [0, 2], [0, 2, 1])
        assert_raises(self, BadRow, "index", 1, joined, [0, 2, 1], [0, 2])
        assert_raises(self, BadRow, "index", 1, done, [0, 2], ["a", "b", "c"])


class ConventionTest(unittest.TestCase):
    def test_tuples_in_the_place_of_lists(self):
        for row in all_rows():
            other = mixed_row(len(row), 9)
            self.assertEqual(undone(tuple(row)), undone(row))
            self.assertEqual(rings(tuple(row)), rings(row))
            self.assertEqual(repeated(tuple(row), 5), repeated(row, 5))
            self.assertEqual(joined(tuple(row), other), joined(row, other))
            self.assertEqual(joined(row, tuple(other)), joined(row, other))
            self.assertIs(is_even(tuple(row)), is_even(row))
            for told in (undone(tuple(row)), repeated(tuple(row), 1), repeated(tuple(row), 0),
                         joined(tuple(row), tuple(other)), done(tuple(row), tuple(other))):
                self.assertIs(type(told), list)

    def test_what_is_handed_in_stays(self):
        for row in all_rows():
            other = mixed_row(len(row), 9)
            things = things_of(len(row))
            kept, kept_other, kept_things = list(row), list(other), list(things)
            for _ in range(2):
                joined(row, other)
                undone(row)
                done(row, things)
                repeated(row, 7)
                repeated(row, -7)
                rings(row)
                is_even(row)
            self.assertEqual((row, other, things), (kept, kept_other, kept_things))

    def test_what_is_told_is_new(self):
        for size in (1, 2, 3, 60):
            row = mixed_row(size, 3)
            kept = list(row)
            same = list(range(size))
            things = things_of(size)
            calls = (
                lambda: nothing(size),
                lambda: joined(row, same),
                lambda: joined(same, row),
                lambda: undone(row),
                lambda: undone(same),
                lambda: done(row, things),
                lambda: done(same, things),
                lambda: repeated(row, 0),
                lambda: repeated(row, 1),
                lambda: repeated(same, 5),
                lambda: rings(row),
            )
            for at, call in enumerate(calls):
                with self.subTest(size=size, at=at):
                    told = call()
                    first = list(told)
                    told.reverse()
                    told.append("more")
                    told[0] = "changed"
                    self.assertEqual(call(), first)
                    self.assertEqual((row, same, things), (kept, list(range(size)), things_of(size)))

    def test_a_call_that_raises_changes_nothing(self):
        row, things = [0, 2, 2], ["a", "b", "c"]
        for call in (lambda: joined(row, [0, 1, 2]), lambda: joined([0, 1, 2], row), lambda: undone(row),
                     lambda: done(row, things), lambda: repeated(row, 2), lambda: rings(row), lambda: is_even(row)):
            self.assertRaises(BadRow, call)
            self.assertEqual((row, things), ([0, 2, 2], ["a", "b", "c"]))


if __name__ == "__main__":
    unittest.main()
