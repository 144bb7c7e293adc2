"""Polynomials over a field: lists of coefficients, the lowest first, the last one not 0.

The sum of two elements of a field is their exclusive or.
"""

from farhaul.errors import NoDivisor


def trimmed(coefficients):
    """Return the polynomial with these coefficients, without the 0s at the end."""
    size = len(coefficients)
    while size > 0 and coefficients[size - 1] == 0:
        size -= 1
    return coefficients[:size]


def add(field, p, q):
    """Return the sum."""
    if len(p) < len(q):
        return add(field, q, p)
    return trimmed([e ^ f for e, f in zip(p, q)] + p[len(q):])


def times(field, p, q):
    """Return the product."""
    total = [0] * (len(p) + len(q))
    for i, e in enumerate(p):
        for k, f in enumerate(field.scaled(q, e), start=i):
            total[k] ^= f
    return trimmed(total)


def scaled(field, p, e):
    """Return the product with an element."""
    return trimmed(field.scaled(p, e))


def divide(field, p, q):
    """Return the pair of the quotient and the rest."""
    divisor = trimmed(q)
    if not divisor:
        raise NoDivisor(0)
    rest = trimmed(p)
    inverse = field.inverse(divisor[-1])
    quotient = [0] * max(0, len(rest) - len(divisor) + 1)
    while len(rest) >= len(divisor):
        shift = len(rest) - len(divisor)
        factor = field.times(rest[-1], inverse)
        quotient[shift] = factor
        for k, e in enumerate(field.scaled(divisor, factor), start=shift):
            rest[k] ^= e
        rest = trimmed(rest)
    return quotient, rest


def value(field, p, e):
    """Return the value at an element."""
    return field.value(p, e)


def slope(p):
    """Return the formal derivative."""
    # The slope of x ** (i + 1) is x ** i taken i + 1 times, which is 0 if i is odd.
    return trimmed([e if i % 2 == 0 else 0 for i, e in enumerate(p[1:])])
