"""The roots of bivariate polynomials: polynomials that make them 0 in the place of y."""

from farhaul.errors import NoDivisor
from farhaul.lists.bivariate import along, raised
from farhaul.polys.points import roots
from farhaul.polys.polys import divide, trimmed


def curves(field, rows, size):
    """Return the ascending list of all roots with at most so many coefficients (Roth and Ruckenstein)."""
    if not rows:
        raise NoDivisor(0)
    # Pairs of the first coefficients of roots, and of that whose roots are made of the further ones.
    begun = [([], rows)]
    for left in reversed(range(size)):
        longer = []
        for first, rest in begun:
            whole = _divided(rest)
            low = [row[0] if row else 0 for row in whole]
            for e in roots(field, low):
                # No step behind this one divides by more powers of x than as often as e is a root.
                powers = _times_root(field, low, e) * left + 1
                longer.append((first + [e], _behind(field, whole, e, powers)))
        begun = longer
    # Not all powers of x were looked at, so some may be no roots.
    found = [trimmed(first) for first, _ in begun]
    return sorted([p for p in found if not along(field, rows, p)])


def _divided(rows):
    """Return a bivariate polynomial other than 0 without the powers of x that divide it."""
    low = min([_zeros(row) for row in rows if row])
    return [row[low:] for row in rows]


def _zeros(row):
    """Return the number of 0s with which a polynomial other than 0 begins."""
    many = 0
    while row[many] == 0:
        many += 1
    return many


def _times_root(field, p, e):
    """Return how often an element is a root of a polynomial other than 0."""
    many = 0
    quotient, rest = divide(field, p, [e, 1])
    while not rest:
        many += 1
        quotient, rest = divide(field, quotient, [e, 1])
    return many


def _behind(field, rows, e, powers):
    """Return the bivariate polynomial with x * y + e in the place of y, up to so many powers of x."""
    short = raised(field, [trimmed(row[:powers]) for row in rows], e)
    return [trimmed(([0] * j + row)[:powers]) for j, row in enumerate(short[:powers])]
