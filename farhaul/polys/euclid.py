"""Common divisors, and rests with factors (the extended Euclidean algorithm)."""

from farhaul.polys.polys import add, divide, scaled, times, trimmed


def common(field, p, q):
    """Return the monic common divisor of the greatest degree, the polynomial 0 if both are 0."""
    last = trimmed(p)
    rest = trimmed(q)
    while rest:
        last, rest = rest, divide(field, last, rest)[1]
    if not last:
        return []
    return scaled(field, last, field.inverse(last[-1]))


def stopped(field, p, q, bound):
    """Return the triple of the first rest with a degree less than the bound, and its factors."""
    last = (trimmed(p), [1], [])
    if len(last[0]) <= bound:
        return last
    now = (trimmed(q), [], [1])
    while len(now[0]) > bound:
        last, now = now, _rest_behind(field, last, now)
    return now


def _rest_behind(field, last, now):
    """Return the next rest and its factors, behind two rests with theirs."""
    quotient, rest = divide(field, last[0], now[0])
    f = add(field, last[1], times(field, quotient, now[1]))
    g = add(field, last[2], times(field, quotient, now[2]))
    return rest, f, g
