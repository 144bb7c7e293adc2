"""Told messages: those whose ended rows are nearest to a received row, and papers that prove it."""

from farhaul.errors import BadRow
from farhaul.paths.turns import row_steps
from farhaul.ranges import all_below
from farhaul.received import differing
from farhaul.trellis import first_bits, is_bound, is_told, least_paper, parting_bounds


def price(shift_register, received, message):
    """Return in how many places that are not wiped the ended row of a message differs."""
    return differing(shift_register.ended_row(message), received)


def mend(shift_register, received):
    """Return the triple of the told message, its price, and a path paper."""
    count = _count(shift_register, received)
    if count is None:
        raise BadRow(len(received))
    steps = row_steps(shift_register, received)
    paper = least_paper(steps)
    return first_bits(steps, paper, 0, 0)[:count], paper[0][0], paper


def margin(shift_register, received):
    """Return the least price of the other messages less that of the told one, None if it is alone."""
    message, least, paper = mend(shift_register, received)
    if not message:
        return None
    # Enough inputs 0 follow each step of the message that the other input has a number, too.
    return min(parting_bounds(row_steps(shift_register, received), paper, message)) - least


def check_path(shift_register, received, message, price, paper):
    """Return True if a path paper proves that a message with this price is the told one."""
    count = _count(shift_register, received)
    if count is None or len(message) != count or not all_below(message, 2):
        return False
    if differing(shift_register.ended_row(message), received) != price:
        return False
    steps = row_steps(shift_register, received)
    return is_bound(steps, paper) and is_told(steps, paper, message, price)


def _count(shift_register, received):
    """Return the number of bits of the messages for a received row, None if it has a wrong size."""
    size = len(shift_register.taps())
    count = len(received) // size - shift_register.memory()
    if len(received) % size != 0 or count < 0:
        return None
    return count
