"""Punctured rows: rows of shift registers of which a pattern says which bits are sent."""

from farhaul.bounds.ones import bound_of, breaking_places
from farhaul.errors import BadPattern, BadRow
from farhaul.paths.mending import mend
from farhaul.paths.turns import row_steps
from farhaul.ranges import all_below
from farhaul.trellis import is_below_all, is_bound, least_paper, least_way, parting_bounds

MOST_MASKS = 8


def kept_bits(shift_register, pattern, steps):
    """Return how many bits are kept of a row of so many steps."""
    _need_pattern(shift_register, pattern)
    return sum(_keeps(shift_register, pattern, steps))


def punctured(shift_register, pattern, row):
    """Return the list of the kept items of a row."""
    _need_pattern(shift_register, pattern)
    size = len(shift_register.taps())
    if len(row) % size != 0:
        raise BadRow(len(row))
    return [item for item, kept in zip(row, _keeps(shift_register, pattern, len(row) // size)) if kept]


def opened(shift_register, pattern, steps, sent):
    """Return the row of so many steps with None where nothing was sent."""
    _need_pattern(shift_register, pattern)
    keeps = _keeps(shift_register, pattern, steps)
    if len(sent) != sum(keeps):
        raise BadRow(len(sent))
    row = []
    taken = 0
    for kept in keeps:
        row.append(sent[taken] if kept else None)
        taken += kept
    return row


def mend_punctured(shift_register, pattern, count, received):
    """Return the triple of the told message, its price, and a path paper for the opened row."""
    return mend(shift_register, opened(shift_register, pattern, count + shift_register.memory(), received))


def least_punctured(shift_register, pattern, count):
    """Return the pair of the least weight of a punctured row and the first message that has it."""
    return least_way(_kept_steps(shift_register, pattern, count), count)


def punctured_paper(shift_register, pattern, count):
    """Return a path paper that the check accepts with the punctured least row."""
    return least_paper(_kept_steps(shift_register, pattern, count))


def check_punctured(shift_register, pattern, count, weight, message, paper):
    """Return True if a path paper proves that a message has the least weight, otherwise False."""
    steps = _kept_steps(shift_register, pattern, count)
    if len(message) != count or not all_below(message, 2) or not any(message):
        return False
    if sum(_sent_row(shift_register, pattern, message)) != weight:
        return False
    return is_bound(steps, paper) and is_below_all(weight, parting_bounds(steps, paper, [0] * count))


def punctured_bound(shift_register, pattern, count):
    """Return the number of turned bits that never break a message, None if two have one row."""
    return bound_of(least_punctured(shift_register, pattern, count)[0])


def breaking_punctured(shift_register, pattern, count):
    """Return the pair of a message and the places of turned bits that break its punctured row."""
    weight, message = least_punctured(shift_register, pattern, count)
    return message, breaking_places(_sent_row(shift_register, pattern, message), weight)


def _need_pattern(shift_register, pattern):
    """Raise an error unless the masks are as many, and such ones, as they may be."""
    if len(pattern) < 1 or len(pattern) > MOST_MASKS:
        raise BadPattern(len(pattern))
    for k, mask in enumerate(pattern):
        if mask < 0 or mask >= 1 << len(shift_register.taps()):
            raise BadPattern(k)
    if not any(pattern):
        raise BadPattern(len(pattern))


def _keeps(shift_register, pattern, steps):
    """Return, for each bit of a row of so many steps, 1 if it is kept, otherwise 0."""
    size = len(shift_register.taps())
    return [pattern[t % len(pattern)] >> j & 1 for t in range(steps) for j in range(size)]


def _sent_row(shift_register, pattern, message):
    """Return the punctured ended row of a message."""
    return punctured(shift_register, pattern, shift_register.ended_row(message))


def _kept_steps(shift_register, pattern, count):
    """Return the steps of the ended rows of so many bits, priced by the weights of their kept bits."""
    steps = count + shift_register.memory()
    zeros = [0] * kept_bits(shift_register, pattern, steps)
    return row_steps(shift_register, opened(shift_register, pattern, steps, zeros))
