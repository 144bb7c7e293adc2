"""Bursts of turned bits: how long they may be, and where they break a payload."""

from farhaul.errors import HasRegister


def burst_bound(plan):
    """Return the greatest number of bits of a burst that never breaks a payload."""
    if plan.shift_register is not None:
        raise HasRegister(0)
    most = plan.code.checks // 2
    if most == 0:
        return 0
    return (plan.depth * most - 1) * plan.code.field.bits() + 1


def breaking_burst(plan):
    """Return the pair of the first bit and the number of bits of a burst that breaks a payload."""
    bound = burst_bound(plan)
    if bound == 0:
        return 0, 1
    # The burst has just the last bit of its first symbol, and so one symbol too many.
    return plan.code.field.bits() - 1, bound + 1


def symbols_touched(m, first, bits):
    """Return the pair of the first symbol and the number of symbols that a burst has bits of."""
    symbol = first // m
    return symbol, (first + bits - 1) // m - symbol + 1
