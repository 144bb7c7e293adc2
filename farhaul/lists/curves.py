"""The roots of bivariate polynomials: polynomials that make them 0 in the place of y."""

from farhaul.errors import NoDivisor
from farhaul.lists.bivariate import raised
from farhaul.polys.points import roots
from farhaul.polys.polys import trimmed


def curves(field, rows, size):
    """Return the ascending list of all roots with at most so many coefficients (Roth and Ruckenstein)."""
    if not rows:
        raise NoDivisor(0)
    # Pairs of the first coefficients of roots, and of that whose roots are made of the further ones.
    begun = [([], rows)]
    for _ in range(size):
        longer = []
        for first, rest in begun:
            whole = _divided(rest)
            for e in roots(field, [row[0] if row else 0 for row in whole]):
                longer.append((first + [e], _behind(field, whole, e)))
        begun = longer
    # Further coefficients 0 are those of a root just where nothing is left without y.
    return sorted([trimmed(first) for first, rest in begun if not rest[0]])


def _divided(rows):
    """Return a bivariate polynomial other than 0 without the powers of x that divide it."""
    low = min([_zeros(row) for row in rows if row])
    return [row[low:] for row in rows]


def _zeros(row):
    """Return the number of 0s with which a polynomial other than 0 begins."""
    many = 0
    while row[many] == 0:
        many += 1
    return many


def _behind(field, rows, e):
    """Return the bivariate polynomial with x * y + e in the place of y."""
    return [[0] * j + row if row else [] for j, row in enumerate(raised(field, rows, e))]
