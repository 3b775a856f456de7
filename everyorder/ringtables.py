"""The rings of what words do, for all sizes at once."""

from math import lcm

from everyorder.checks import is_between
from everyorder.cutting import Cutting
from everyorder.errors import BadNumber, BadSize, Mixed
from everyorder.pieces import forward_pieces, joined_pieces, pieces_of, undone_pieces, wider_pieces
from everyorder.rings import counted_rings, is_odd, is_one_ring
from everyorder.runs import MOST_SIZE, runs_of, wider_runs
from everyorder.straights import ONE, Reach, for_rest, minus, value_at

LEAST = 2
# So many sizes are looked at one by one before all sizes are taken at once: most words fail early.
FIRST_SIZES = 30
# By how many halves there are: none, one, more. (The half of a block that reaches to the half goes by the rests by 4.)
MODULI = (1, 2, 4)


def runs_at(w, v, k):
    """Return what w does at k, if v is not None behind what v does at k - 1 taken back."""
    runs = runs_of(w, k)
    if v is None:
        return runs
    return wider_runs(~runs_of(v, k - 1)) * runs


def pieces_at(w, v, size, reach):
    """Return the same as runs_at, in pieces for a straight size."""
    pieces = pieces_of(w, size, reach)
    if v is None:
        return pieces
    beneath = minus(size, ONE)
    back = undone_pieces(pieces_of(v, beneath, reach))
    return joined_pieces(wider_pieces(back, beneath), pieces, reach)


def many_turns(w, v):
    """Return how many of the words have a turn."""
    return len([word for word in (w, v) if word is not None and word.has_turn])


def first_modulus(w, v):
    """Return a modulus by whose rests all places and blocks are straight."""
    halves = w.text.count("half")
    if v is not None:
        halves = halves + v.text.count("half")
    return MODULI[min(halves, 2)]


class Branch:
    """The sizes modulus * x + rest, for x from low on, and their rings: pairs of straight numbers."""

    def __init__(self, modulus, rest, low, found):
        self.modulus = modulus
        self.rest = rest
        self.low = low
        self.found = found


def branches_from(cutting, modulus, rest):
    """Return the branches to which a cutting for the sizes modulus * x + rest leads."""
    done = []
    todo = [(cutting, modulus, rest)]
    while todo:
        cutting, modulus, rest = todo.pop()
        many = cutting.cut()
        if many == 1:
            done.append(Branch(modulus, rest, cutting.reach.low, cutting.found))
        else:
            for part in range(many):
                todo.append((cutting.parted(many, part), modulus * many, modulus * part + rest))
    return done


def branches_of(w, v, modulus, twice_done):
    """Return the branches of all sizes for the rearrangement that the words make, or for what it does twice."""
    branches = []
    for rest in range(modulus):
        # From size 2 on.
        reach = Reach(-((rest - LEAST) // modulus))
        size = (modulus, rest)
        pieces = pieces_at(w, v, size, reach)
        if twice_done:
            pieces = joined_pieces(pieces, pieces, reach)
        runs = [(start, length, goal, ONE) for start, length, goal in forward_pieces(pieces)]
        branches.extend(branches_from(Cutting(size, runs, reach.low), modulus, rest))
    return branches


def first_size_told(branch):
    """Return the least number from which on all sizes of the branch go by it."""
    return branch.modulus * (branch.low - 1) + branch.rest + 1


class RingTable:
    """The rings of what words make at each size."""

    def __init__(self, w, v, branches):
        self.modulus = 1
        self.start = 1
        self._w = w
        self._v = v
        self._branches = {}
        for branch in branches:
            self.modulus = lcm(self.modulus, branch.modulus)
            self.start = max(self.start, first_size_told(branch))
            self._branches[(branch.modulus, branch.rest)] = branch
        self._moduli = sorted(set([branch.modulus for branch in branches]))

    def at(self, k):
        """Return the rings at size k, as rings_of does."""
        if not is_between(k, LEAST, MOST_SIZE):
            raise BadSize(k)
        return counted_rings(runs_at(self._w, self._v, k).rows)

    def lines(self, r):
        """Return tuples (a, b, c, d): at size modulus * x + r are a * x + b rings of c * x + d places each."""
        if not is_between(r, 0, self.modulus - 1):
            raise BadNumber(r)
        branch = self._branch(r)
        many = self.modulus // branch.modulus
        rest = (r - branch.rest) // branch.modulus
        return [for_rest(rings, many, rest) + for_rest(places, many, rest) for rings, places in branch.found]

    def _branch(self, r):
        """Return the branch in which the sizes with the rest r are."""
        keys = [(modulus, r % modulus) for modulus in self._moduli]
        return [self._branches[key] for key in keys if key in self._branches][0]


def table_of(w, v=None):
    """Return the table of the rings for all sizes."""
    if many_turns(w, v) == 1:
        raise Mixed()
    return RingTable(w, v, branches_of(w, v, first_modulus(w, v), False))


def is_one_at(w, v, branch, x):
    """Tell whether there is one ring at a size of a branch of what is done once, or twice if one word has a turn."""
    many = sum([value_at(rings, x) for rings, _ in branch.found])
    k = branch.modulus * x + branch.rest
    if many_turns(w, v) != 1 or k % 2 == 1:
        return many == 1
    return many == 2 and is_odd(runs_at(w, v, k))


def first_in_branch(w, v, branch):
    """Return the least size that a branch tells at which there is not one ring; None if there is none."""
    # The number of rings stays or grows with x; whether a rearrangement is odd goes by the rests of x by 4.
    for x in range(branch.low, branch.low + 4):
        if not is_one_at(w, v, branch, x):
            return branch.modulus * x + branch.rest
    return None


def first_of_sizes(w, v, low, high):
    """Return the least size from low on and less than high at which there is not one ring; None if there is none."""
    for k in range(low, high):
        if not is_one_ring(runs_at(w, v, k)):
            return k
    return None


def first_many(w, v=None):
    """Return the least size at which there is not one ring; None if there is one ring at all sizes."""
    early = first_of_sizes(w, v, LEAST, FIRST_SIZES)
    if early is not None:
        return early
    # Beside one turn alone, what is done twice goes forward; by 4 it is told which sizes are even.
    one_turn = many_turns(w, v) == 1
    branches = branches_of(w, v, 4 if one_turn else first_modulus(w, v), one_turn)
    told = [first_in_branch(w, v, branch) for branch in branches]
    found = min([k for k in told if k is not None], default=None)
    # Sizes that are less than what the branches tell are looked at one by one, too.
    high = max([first_size_told(branch) for branch in branches])
    early = first_of_sizes(w, v, FIRST_SIZES, high if found is None else min(high, found))
    return found if early is None else early
