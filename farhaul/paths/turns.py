"""Turns: the received bits of one step of a shift register, and what the windows cost there."""

from farhaul.received import differing
from farhaul.registers.steps import ended, step_of


def turn_prices(shift_register, turn):
    """Return, for each window, in how many places its bits differ from those that are received."""
    windows = range(2 << shift_register.memory())
    return [differing(shift_register.out(window // 2, window % 2), turn) for window in windows]


def row_steps(shift_register, received):
    """Return the steps of a received row, at the end of which all inputs are 0."""
    return ended(shift_register, free_steps(shift_register, received))


def free_steps(shift_register, received):
    """Return the steps of received turns in which both inputs are allowed."""
    size = len(shift_register.taps())
    # Only few different turns can be received, whatever the length of the row.
    known = {}
    steps = []
    for k in range(0, len(received), size):
        turn = received[k:k + size]
        key = tuple(turn)
        if key not in known:
            known[key] = step_of(turn_prices(shift_register, turn))
        steps.append(known[key])
    return steps
