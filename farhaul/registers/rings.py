"""Rings: ways around on which a shift register puts out only 0s, though not all inputs are 0."""

from farhaul.fields.binary import common
from farhaul.ranges import all_below


def is_catastrophic(shift_register):
    """Return True if the shift register has a ring, otherwise False."""
    divisor = 0
    for tap in shift_register.taps():
        divisor = common(divisor, tap)
    # Just the powers of x have a single coefficient 1.
    return divisor & (divisor - 1) != 0


def ring(shift_register):
    """Return a ring, a list of pairs of a state and an input, or None if there is none."""
    # Behind an input 1 the state is not 0, so each ring goes through another state.
    for state in range(1, 1 << shift_register.memory()):
        steps = _way_around(shift_register, state)
        if steps is not None:
            return steps
    return None


def check_ring(shift_register, steps):
    """Return True if a list of pairs of integers is a ring, otherwise False."""
    bits = [bit for _, bit in steps]
    if not any(bits) or not all_below(bits, 2):
        return False
    if not all_below([state for state, _ in steps], 1 << shift_register.memory()):
        return False
    for k, (state, bit) in enumerate(steps):
        ahead = steps[(k + 1) % len(steps)][0]
        if shift_register.next_state(state, bit) != ahead or any(shift_register.out(state, bit)):
            return False
    return True


def _way_around(shift_register, start):
    """Return steps from a state back to it that put out only 0s, or None if there are none.

    The state is not 0, so inputs 0 alone never lead back to it.
    """
    ways = [(start, [])]
    seen = {}
    while ways:
        state, steps = ways.pop()
        for bit in (0, 1):
            if any(shift_register.out(state, bit)):
                continue
            longer = steps + [(state, bit)]
            ahead = shift_register.next_state(state, bit)
            if ahead == start:
                return longer
            if ahead not in seen:
                seen[ahead] = True
                ways.append((ahead, longer))
    return None
