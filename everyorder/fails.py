"""The sizes at which the levels of a closed program are not whole, for all sizes at once."""

from math import lcm

from everyorder.cutting import Cutting
from everyorder.layers import MOST_LISTED, along_parity, along_pieces, does_nothing, is_whole_far, runs_between
from everyorder.pieces import forward_pieces, joined_pieces, pieces_of, stay, undone_pieces, wider_pieces
from everyorder.rings import is_odd
from everyorder.ringtables import branches_from
from everyorder.sizes import Sizes, shortest_turn
from everyorder.straights import ONE, Reach, minus

# From here on the parity of an along level goes by the rest of its size by four times its factor: the places that are
# told stand at the same ends of the row, and in the same order.
FAR = 64
# By how many rests all places and blocks are straight, halves of blocks that end in the middle among them.
STRAIGHT = 4


def pieces_below(program, k, size, reach):
    """Return the pieces of what stands beneath a same level, for straight sizes like k; None if it is not whole."""
    beneath = program.level(k - 1)
    last = minus(size, ONE)
    if does_nothing(beneath):
        return stay(size)
    if beneath.kind == "same":
        return wider_pieces(undone_pieces(pieces_of(beneath.word, last, reach)), last)
    parity = along_parity(beneath, program.level(k - 2), k - 1)
    if parity is None:
        return None
    return wider_pieces(along_pieces(beneath, program.level(k - 2), last, parity, reach), last)


def has_one_turn(ruling, beneath):
    """Tell whether there is one turn alone between two calls of a same level."""
    below = beneath.kind == "same" and beneath.word.has_turn and not does_nothing(beneath)
    return ruling.word.has_turn != below


class Outlook:
    """For which sizes with a rest the levels are whole, and for which they fail, from the size `start` on.

    Both are told as pairs of a modulus and a rest by it.
    """

    def __init__(self, program, rest):
        self.program = program
        self.start = FAR
        self.whole = []
        self.failing = []
        first = first_from(FAR, program.period, rest)
        modulus = modulus_at(program, first)
        for k in range(first, first + modulus, program.period):
            ruling = program.level(k)
            if ruling.kind == "along":
                self.tell(modulus, k, 0, along_parity(ruling, program.level(k - 1), k) is not None)
            else:
                self.tell_same(modulus, k)

    def tell(self, modulus, k, low, is_whole):
        """Tell whether levels are whole, for the sizes modulus * x + k with x from low on."""
        if is_whole:
            self.whole.append((modulus, k % modulus))
        else:
            self.failing.append((modulus, k % modulus))
        self.start = max(self.start, modulus * (low - 1) + k + 1)

    def tell_same(self, modulus, k):
        """Tell of same levels of the sizes modulus * x + k."""
        size = (modulus, k)
        reach = Reach(0)
        below = pieces_below(self.program, k, size, reach)
        if below is None:
            self.tell(modulus, k, 0, False)
            return
        ruling = self.program.level(k)
        pieces = joined_pieces(below, pieces_of(ruling.word, size, reach), reach)
        one_turn = has_one_turn(ruling, self.program.level(k - 1))
        if one_turn:
            pieces = joined_pieces(pieces, pieces, reach)
        runs = [(start, length, goal, ONE) for start, length, goal in forward_pieces(pieces)]
        for branch in branches_from(Cutting(size, runs, reach.low), modulus, k):
            self.tell_branch(branch, one_turn)

    def tell_branch(self, branch, one_turn):
        """Tell of a branch of sizes, with the rings of what is done once, or twice if there is one turn."""
        wanted = 2 if one_turn and branch.rest % 2 == 0 else 1
        grows = sum([rings[0] for rings, _ in branch.found])
        many = sum([rings[1] for rings, _ in branch.found])
        if grows > 0:
            # There may be few rings at the first sizes.
            self.tell(branch.modulus, branch.rest, max(branch.low, (wanted - many) // grows + 1), False)
        elif many != wanted or wanted == 1:
            self.tell(branch.modulus, branch.rest, branch.low, many == wanted)
        else:
            # Whether an odd number of exchanges is done goes by the rests of x by 4.
            for x in range(branch.low, branch.low + 4):
                k = branch.modulus * x + branch.rest
                self.tell(4 * branch.modulus, k, 0, is_odd(runs_between(self.program, k)))


def first_from(low, period, rest):
    """Return the least size from low on with this rest by the period."""
    return low + (rest - low) % period


def modulus_at(program, k):
    """Return a modulus by whose rests all that is asked of far levels like that of size k is straight."""
    factor = 1
    for ruling in (program.level(k), program.level(k - 1)):
        if ruling.kind == "along":
            factor = abs(ruling.factor)
    return lcm(program.period, STRAIGHT * factor)


def common_modulus(period, told):
    """Return the least common multiple of the period and the moduli that are told."""
    modulus = period
    for other, _ in told:
        modulus = lcm(modulus, other)
    return modulus


def marks_by(told, period, rest, worth):
    """Return a list for the sizes with a rest, one behind the other: the worth for those that are told.

    It goes once through a modulus by which all that is told is told.
    """
    modulus = common_modulus(period, told)
    marks = [not worth] * (modulus // period)
    for other, behind in told:
        for index in range((behind - rest) // period, modulus // period, other // period):
            marks[index] = worth
    return marks


def turn_of(outlook, period, rest):
    """Return for the far sizes with a rest, one behind the other, whether they fail, up to where this begins anew."""
    # The whole ones and the failing ones tell the same; by one of both it may be much longer until it begins anew.
    if common_modulus(period, outlook.whole) < common_modulus(period, outlook.failing):
        return shortest_turn(marks_by(outlook.whole, period, rest, False))
    return shortest_turn(marks_by(outlook.failing, period, rest, True))


def failing_sizes(program, rest):
    """Return the sizes from 14 on with a rest whose levels are not whole; all sizes of the program are closed."""
    period = program.period
    outlook = Outlook(program, rest)
    turn = turn_of(outlook, period, rest)
    first = first_from(MOST_LISTED + 1, period, rest)
    start = MOST_LISTED + 1
    early = []
    for k in range(first, outlook.start, period):
        fails = not is_whole_far(program, k)
        if fails:
            early.append(k)
        if fails != turn[(k - rest) // period % len(turn)]:
            start = k + 1
    rests = [rest + period * index for index, fails in enumerate(turn) if fails]
    return Sizes(start, period * len(turn), rests, [k for k in early if k < start])


def least_failing(program, low):
    """Return the least size from low on, which is 14 or more, whose level is not whole; None if there is none."""
    told = [failing_sizes(program, rest).next_from(low) for rest in range(program.period)]
    return min([size for size in told if size is not None], default=None)
