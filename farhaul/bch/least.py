"""Least unseen patterns of seals, papers that prove them, and profiles."""

from farhaul.bch.seals import need_seal, rest_of, times_x
from farhaul.bch.states import row_steps
from farhaul.errors import OutOfRange
from farhaul.fields.binary import degree
from farhaul.ranges import all_below
from farhaul.trellis import is_below_all, is_bound, least_paper, least_way, parting_bounds

MOST_CHECKS = 8
MOST_BITS = 300


def need_size(seal, size):
    """Raise an error unless the seal and the size are such that there are unseen patterns."""
    need_seal(seal, MOST_CHECKS)
    if size <= degree(seal) or size > MOST_BITS:
        raise OutOfRange(size)


def least_unseen(seal, size):
    """Return the pair of the least number of 1s of an unseen pattern and the first such pattern."""
    return least_way(_pattern_steps(seal, size), size)


def state_paper(seal, size):
    """Return a state paper that the check accepts with the least unseen pattern."""
    return least_paper(_pattern_steps(seal, size))


def check_unseen(seal, size, weight, pattern, paper):
    """Return True if a paper proves that an unseen pattern has the least weight, otherwise False."""
    steps = _pattern_steps(seal, size)
    if len(pattern) != size or not all_below(pattern, 2) or not any(pattern):
        return False
    if sum(pattern) != weight or rest_of(seal, pattern) != 0:
        return False
    return is_bound(steps, paper) and is_below_all(weight, parting_bounds(steps, paper, [0] * size))


def profile(seal, most):
    """Return the pairs of a size and its least number of 1s, where this is another than before."""
    need_size(seal, most)
    # For each rest, the least number of 1s of the patterns of the size that have it.
    far = MOST_BITS + 1
    least = [far] * (1 << degree(seal))
    pairs = []
    rest = 1
    for size in range(1, most + 1):
        least = [min(number, least[state ^ rest] + 1) for state, number in enumerate(least)]
        least[rest] = 1
        rest = times_x(seal, rest)
        if least[0] < far and (not pairs or least[0] != pairs[-1][1]):
            pairs.append((size, least[0]))
    return pairs


def _pattern_steps(seal, size):
    """Return the steps of the patterns of a size, priced by their numbers of 1s."""
    need_size(seal, size)
    return row_steps(seal, [(0, 1)] * size)
