"""A bench: a row of things that is led from order to order by deeds, which can be taken back, written and read."""

from math import factorial

from everyorder.checks import is_between, is_from
from everyorder.errors import BadNumber, BadText, NothingToUndo
from everyorder.numbering import check_number, check_order
from everyorder.orders import number, order, told_from
from everyorder.programs import Program
from everyorder.towers import MOST_LEVELS, check_size

MOST_ROWS = 1000
# No number of an order of so many things has as many figures as this.
MOST_FIGURES = 200
# What stands between the lines of a program that is told in one line.
BETWEEN = " / "
TAKE = "take "
SIZE = "size "


def line_of(program):
    """Return the line that tells that a program is taken."""
    return TAKE + program.text.replace("\n", BETWEEN)


def read_number(text):
    """Return the number that a text tells; None if it tells none that could stand in a page."""
    if not text.isdigit() or not text.isascii() or len(text) > MOST_FIGURES:
        return None
    return None if text != "0" and text.startswith("0") else int(text)


def read_size(line):
    """Return the size that the first line tells."""
    size = read_number(line.removeprefix(SIZE))
    if not line.startswith(SIZE) or not is_between(size, 1, MOST_LEVELS):
        raise BadText(1)
    return size


def read_program(line, at):
    """Return the program that is taken in a line with this number."""
    if not line.startswith(TAKE):
        raise BadText(at)
    try:
        return Program(line.removeprefix(TAKE).replace(BETWEEN, "\n"))
    except BadText:
        raise BadText(at) from None


def do_line(bench, line, at):
    """Do the deed that a line with this number tells."""
    head, _, told = line.partition(" ")
    many = read_number(told)
    try:
        if head == "on":
            bench.on(many)
        elif head == "back":
            bench.back(many)
        elif head == "to":
            bench.to(many)
        else:
            bench.take(read_program(line, at))
    except BadNumber:
        raise BadText(at) from None


class Bench:
    """A row of things, the program that leads it, and the deeds that were done."""

    def __init__(self, program, n):
        check_size(n, 1)
        self.program = program
        self.size = n
        self.row = tuple(range(n))
        self.number = 0
        self._first = program
        # The row with which the program was taken.
        self._beginning = self.row
        # For each deed its line, and the program, its beginning, the number and the row ahead of it.
        self._deeds = []

    def __len__(self):
        return len(self._deeds)

    def __eq__(self, other):
        if not isinstance(other, Bench):
            return False
        return (self.program == other.program and self.size == other.size and self.row == other.row
                and self.number == other.number)

    def on(self, many=1):
        """Go on by so many orders."""
        if not is_from(many, 1) or self.number + many >= factorial(self.size):
            raise BadNumber(many)
        self._lead(f"on {many}", self.number + many)

    def back(self, many=1):
        """Go back by so many orders."""
        if not is_between(many, 1, self.number):
            raise BadNumber(many)
        self._lead(f"back {many}", self.number - many)

    def to(self, at):
        """Go to the order with a number."""
        check_number(at, 0, factorial(self.size) - 1)
        self._lead(f"to {at}", at)

    def take(self, program):
        """Take another program, which begins with the row that is there."""
        self._keep(line_of(program))
        self.program = program
        self.number = 0
        self._beginning = self.row

    def undo(self):
        """Take back the last deed."""
        if not self._deeds:
            raise NothingToUndo()
        _, self.program, self._beginning, self.number, self.row = self._deeds.pop()

    def next_rows(self, many):
        """Return the rows to which so many deeds would go on, one by one, as a list of tuples; fewer at the end."""
        check_number(many, 0, MOST_ROWS)
        first = self.number + 1
        rows = []
        if many == 0 or first == factorial(self.size):
            return rows
        for told in told_from(self.program, self.size, first):
            rows.append(self._named(told))
            if len(rows) == many:
                return rows
        return rows

    def until(self, row):
        """Return how many orders ahead a row comes next; None if it does not come any more."""
        check_order(row, self.size)
        at = number(self.program, self.size, [self._beginning.index(thing) for thing in row])
        return None if at < self.number else at - self.number

    @property
    def page(self):
        """The text that tells the size, the first program and all deeds."""
        return "\n".join([f"{SIZE}{self.size}", line_of(self._first), *[deed[0] for deed in self._deeds]])

    @classmethod
    def read(cls, page):
        """Return the bench that has this page."""
        lines = page.split("\n")
        size = read_size(lines[0])
        if len(lines) == 1:
            raise BadText(2)
        bench = cls(read_program(lines[1], 2), size)
        for index in range(2, len(lines)):
            do_line(bench, lines[index], index + 1)
        return bench

    def _named(self, told):
        """Return a row that the program tells, with the things of the row with which it was taken."""
        return tuple([self._beginning[thing] for thing in told])

    def _keep(self, line):
        """Keep the line of a deed, and what there was ahead of it."""
        self._deeds.append((line, self.program, self._beginning, self.number, self.row))

    def _lead(self, line, at):
        """Go to the order with a number."""
        row = self._named(order(self.program, self.size, at))
        self._keep(line)
        self.number = at
        self.row = row
