"""Seals (cyclic redundancy checks): sealed rows are the multiples of a binary polynomial."""

from farhaul.errors import BadSeal, OutOfRange
from farhaul.fields.binary import degree, divide

MOST_CHECKS = 16


def sealed(seal, message):
    """Return the sealed row that has the message behind its checks."""
    need_seal(seal, MOST_CHECKS)
    r = degree(seal)
    rest = rest_of(seal, [0] * r + message)
    return [rest >> i & 1 for i in range(r)] + message


def is_sealed(seal, row):
    """Return True if a list of bits is a sealed row, otherwise False."""
    need_seal(seal, MOST_CHECKS)
    return rest_of(seal, row) == 0


def order(seal):
    """Return the least k from 1 on such that the seal divides x ** k + 1."""
    need_seal(seal, MOST_CHECKS)
    k = 1
    rest = times_x(seal, 1)
    while rest != 1:
        k += 1
        rest = times_x(seal, rest)
    return k


def unseen_bursts(seal, extent):
    """Return the number of unseen patterns of an extent whose first 1 is at a given place."""
    need_seal(seal, MOST_CHECKS)
    if extent < 1 or extent > 64:
        raise OutOfRange(extent)
    r = degree(seal)
    if extent <= r:
        return 0
    if extent == r + 1:
        return 1
    return 1 << (extent - r - 2)


def sees_odd(seal):
    """Return True if all patterns with an odd number of 1s are seen, otherwise False."""
    need_seal(seal, MOST_CHECKS)
    return divide(seal, 3)[1] == 0


def need_seal(seal, most):
    """Raise an error unless an integer is a seal of at most so high a degree."""
    if seal < 3 or seal % 2 == 0 or degree(seal) > most:
        raise BadSeal(seal)


def rest_of(seal, bits):
    """Return the rest of dividing the binary polynomial of a list of bits by the seal."""
    rest = 0
    for bit in reversed(bits):
        rest = times_x(seal, rest) ^ bit
    return rest


def times_x(seal, rest):
    """Return the rest of x times a rest."""
    # Adding the seal makes the number less just if it takes away a coefficient of its degree.
    return min(2 * rest, 2 * rest ^ seal)
