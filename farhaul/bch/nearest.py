"""Told rows: the sealed rows that are nearest to a received row, and papers that prove it."""

from farhaul.bch.least import need_size
from farhaul.bch.seals import rest_of
from farhaul.bch.states import row_steps
from farhaul.ranges import all_below
from farhaul.received import differing
from farhaul.trellis import first_bits, is_bound, is_told, least_paper, parting_bounds


def nearest(seal, received):
    """Return the triple of the told row, its price, and a state paper."""
    steps = _received_steps(seal, received)
    paper = least_paper(steps)
    return first_bits(steps, paper, 0, 0), paper[0][0], paper


def margin(seal, received):
    """Return the least price of the other sealed rows less that of the told one."""
    row, least, paper = nearest(seal, received)
    bounds = parting_bounds(_received_steps(seal, received), paper, row)
    return min([bound for bound in bounds if bound is not None]) - least


def check_nearest(seal, received, row, claim, paper):
    """Return True if a state paper proves that a row with this price is the told one, otherwise False."""
    steps = _received_steps(seal, received)
    if len(row) != len(received) or not all_below(row, 2) or rest_of(seal, row) != 0:
        return False
    return differing(row, received) == claim and is_bound(steps, paper) and is_told(steps, paper, row, claim)


def _received_steps(seal, received):
    """Return the steps of the rows of the size of a received one, priced by where they differ."""
    need_size(seal, len(received))
    return row_steps(seal, [(differing([0], [bit]), differing([1], [bit])) for bit in received])
