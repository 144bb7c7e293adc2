"""Rows of bits as ways through the rests of dividing them by a seal."""

from farhaul.bch.seals import times_x
from farhaul.fields.binary import degree


def row_steps(seal, prices):
    """Return the steps of the rows that have, at each place, this pair of prices of the bits 0 and 1."""
    steps = []
    rest = 1
    for price, other in prices:
        steps.append([[(state, price), (state ^ rest, other)] for state in range(1 << degree(seal))])
        rest = times_x(seal, rest)
    return steps
