"""Turned bits of ended rows: how many never break a message, and which ones do."""

from farhaul.bounds.ones import bound_of, breaking_places
from farhaul.errors import OutOfRange
from farhaul.registers.least import least_row

MOST_BITS = 200


def row_distance(shift_register, size):
    """Return the least number of bits 1 in the ended row of so many bits that are not all 0."""
    return _least(shift_register, size)[0]


def lightest_row(shift_register, size):
    """Return the first message whose ended row has so few bits 1."""
    return _least(shift_register, size)[1]


def turn_bound(shift_register, size):
    """Return the greatest number of turned bits that never break a message."""
    return bound_of(row_distance(shift_register, size))


def breaking_turns(shift_register, size):
    """Return the pair of a message and the places of turned bits that break its ended row."""
    distance, message = _least(shift_register, size)
    return message, breaking_places(shift_register.ended_row(message), distance)


def _least(shift_register, size):
    """Return the least row for a size."""
    if size < 1 or size > MOST_BITS:
        raise OutOfRange(0)
    return least_row(shift_register, size)
