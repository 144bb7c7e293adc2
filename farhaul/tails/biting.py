"""Tail-biting rows: rows of shift registers that end in the state in which they begin."""

from farhaul.bounds.ones import bound_of, breaking_places
from farhaul.errors import BadRow, OutOfRange
from farhaul.paths.turns import free_steps
from farhaul.ranges import all_below
from farhaul.received import differing
from farhaul.trellis import first_bits, is_below_all, is_bound, is_told, least_paper, parting_bounds

MOST_BITS = 200


def start_state(shift_register, message):
    """Return the state to which the last bits of a message lead."""
    v = shift_register.memory()
    if len(message) < v:
        raise BadRow(len(message))
    return shift_register.run(0, message[len(message) - v:])[0]


def biting_row(shift_register, message):
    """Return the tail-biting row of a message."""
    return shift_register.run(start_state(shift_register, message), message)[1]


def mend_biting(shift_register, received):
    """Return the triple of the told message, its price, and a biting paper."""
    if not _is_received(shift_register, received):
        raise BadRow(len(received))
    steps = free_steps(shift_register, received)
    papers = [least_paper(steps, state) for state in range(1 << shift_register.memory())]
    price = min(_around(papers))
    firsts = [first_bits(steps, papers[s], 0, s) for s, number in enumerate(_around(papers)) if number == price]
    return min(firsts), price, papers


def biting_margin(shift_register, received):
    """Return the least price of the other messages less that of the told one."""
    message, price, papers = mend_biting(shift_register, received)
    start = start_state(shift_register, message)
    bounds = parting_bounds(free_steps(shift_register, received), papers[start], message, start)
    others = [number for s, number in enumerate(_around(papers)) if s != start]
    return min(others + [bound for bound in bounds if bound is not None]) - price


def check_biting(shift_register, received, message, price, paper):
    """Return True if a biting paper proves that a message with this price is the told one, otherwise False."""
    if not _is_received(shift_register, received) or not all_below(message, 2):
        return False
    if len(message) * len(shift_register.taps()) != len(received):
        return False
    if differing(biting_row(shift_register, message), received) != price:
        return False
    steps = free_steps(shift_register, received)
    if not _are_bounds(steps, paper):
        return False
    return all([is_told(steps, numbers, message, price, s) for s, numbers in enumerate(paper)])


def least_biting(shift_register, count):
    """Return the pair of the least weight of a tail-biting row and the first message that has it."""
    papers = biting_paper(shift_register, count)
    steps = _zero_steps(shift_register, count)
    # Messages that are moved around have one weight, and the first one of them ends with 1: so none
    # of those from the state 0 back to it is needed.
    return min([(paper[0][s], first_bits(steps, paper, 0, s)) for s, paper in enumerate(papers) if s > 0])


def biting_paper(shift_register, count):
    """Return a biting paper that the check accepts with the biting least row."""
    if not _is_count(shift_register, count):
        raise OutOfRange(count)
    steps = _zero_steps(shift_register, count)
    return [least_paper(steps, state) for state in range(1 << shift_register.memory())]


def check_least_biting(shift_register, count, weight, message, paper):
    """Return True if a biting paper proves that a message has the least weight, otherwise False."""
    if not _is_count(shift_register, count) or len(message) != count:
        return False
    if not all_below(message, 2) or not any(message) or sum(biting_row(shift_register, message)) != weight:
        return False
    steps = _zero_steps(shift_register, count)
    if not _are_bounds(steps, paper) or not is_below_all(weight, _around(paper)[1:]):
        return False
    return is_below_all(weight, parting_bounds(steps, paper[0], [0] * count))


def biting_bound(shift_register, count):
    """Return the number of turned bits that never break a message, None if two have one row."""
    return bound_of(least_biting(shift_register, count)[0])


def breaking_biting(shift_register, count):
    """Return the pair of a message and the places of turned bits that break its tail-biting row."""
    weight, message = least_biting(shift_register, count)
    return message, breaking_places(biting_row(shift_register, message), weight)


def _is_received(shift_register, received):
    """Return True if a received row has the size of a tail-biting row, otherwise False."""
    size = len(shift_register.taps())
    return len(received) % size == 0 and len(received) // size >= shift_register.memory()


def _is_count(shift_register, count):
    """Return True if there are least rows for a number of bits, otherwise False."""
    return shift_register.memory() <= count <= MOST_BITS


def _zero_steps(shift_register, count):
    """Return the steps of so many received turns of bits 0."""
    return free_steps(shift_register, [0] * (count * len(shift_register.taps())))


def _around(papers):
    """Return the numbers for the ways from each state back to it."""
    return [paper[0][state] for state, paper in enumerate(papers)]


def _are_bounds(steps, papers):
    """Return True if there is a bound from below for the ways to each state, otherwise False."""
    if len(papers) != len(steps[0]):
        return False
    return all([is_bound(steps, paper, state) for state, paper in enumerate(papers)])
