"""Polynomials in x and y: lists of polynomials in x, the coefficients of the powers of y."""

from farhaul.polys.polys import add, scaled, times, trimmed, value
from farhaul.ranges import all_below


def is_bivariate(field, rows):
    """Return True if a list of lists of integers is a bivariate polynomial, otherwise False."""
    if rows and not rows[-1]:
        return False
    return all(all_below(row, field.size()) and row[-1:] != [0] for row in rows)


def leading(rows, weight):
    """Return the exponents of x and y of the leading term, None for 0."""
    best = None
    for j, row in enumerate(rows):
        # Of the terms of a row the last one is the greatest; of two equal degrees the later row counts.
        if row and (best is None or len(row) - 1 + weight * j >= best[0] + weight * best[1]):
            best = len(row) - 1, j
    return best


def weighted_degree(rows, weight):
    """Return the weighted degree, -1 for 0."""
    return max([len(row) - 1 + weight * j for j, row in enumerate(rows) if row], default=-1)


def value_at(field, rows, e, f):
    """Return the value at a pair of elements."""
    return value(field, [value(field, row, e) for row in rows], f)


def along(field, rows, p):
    """Return the polynomial in x with the polynomial p in the place of y."""
    total = []
    for row in reversed(rows):
        total = add(field, times(field, total, p), row)
    return total


def raised(field, rows, f):
    """Return the bivariate polynomial with y + f in the place of y."""
    moved_rows = [list(row) for row in rows]
    step = 1
    power = f
    # The power j of y + f is the product of y ** step + f ** step for the bits `step` of j.
    while step < len(rows) and power != 0:
        for j in range(len(rows)):
            if j & step:
                part = scaled(field, moved_rows[j], power)
                moved_rows[j - step] = add(field, moved_rows[j - step], part)
        step *= 2
        power = field.times(power, power)
    return moved_rows


def moved(field, rows, e, f):
    """Return the bivariate polynomial with x + e and y + f in the places of x and y."""
    return _swapped(raised(field, _swapped(raised(field, rows, f)), e))


def multiplicity(field, rows, e, f):
    """Return the multiplicity at a pair of elements, None for 0."""
    least = None
    for j, row in enumerate(moved(field, rows, e, f)):
        for i, coefficient in enumerate(row):
            if coefficient != 0 and (least is None or i + j < least):
                least = i + j
    return least


def _swapped(rows):
    """Return the bivariate polynomial with x and y exchanged."""
    size = max([len(row) for row in rows], default=0)
    return [trimmed([row[i] if i < len(row) else 0 for row in rows]) for i in range(size)]
