"""The steps of shift registers as branches, and what the windows cost.

A window is the input plus twice the state.
"""


def weights(shift_register):
    """Return the list of the numbers of bits 1 that are put out for each window."""
    windows = range(2 << shift_register.memory())
    return [sum(shift_register.out(window // 2, window % 2)) for window in windows]


def step_of(prices):
    """Return the branches of each state, for a list of the prices of all windows."""
    states = len(prices) // 2
    return [[(w % states, prices[w]) for w in (2 * state, 2 * state + 1)] for state in range(states)]


def ended(shift_register, steps):
    """Return the steps with the input 0 alone in the last ones, as many as bits of memory."""
    free = len(steps) - shift_register.memory()
    return steps[:free] + [[branches[:1] for branches in step] for step in steps[free:]]
