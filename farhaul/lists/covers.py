"""Covers: bivariate polynomials that are 0, often enough, at given pairs of elements."""

from farhaul.errors import SamePoint
from farhaul.lists.bivariate import multiplicity
from farhaul.polys.polys import add, trimmed


def terms_up_to(weight, degree):
    """Return the number of terms with at most this weighted degree."""
    if degree < 0:
        return 0
    rows = degree // weight + 1
    return rows * (degree + 1) - weight * (rows * (rows - 1) // 2)


def degree_bound(weight, cost):
    """Return the least weighted degree up to which there are more terms than the cost."""
    high = 1
    while terms_up_to(weight, high) <= cost:
        high *= 2
    # The degree `low` is too low, and `high` is not.
    low = -1
    while high - low > 1:
        middle = (low + high) // 2
        if terms_up_to(weight, middle) > cost:
            high = middle
        else:
            low = middle
    return high


def cost_of(vertices):
    """Return the cost of some vertices."""
    return sum([s * (s + 1) // 2 for e, f, s in vertices])


def least_cover(field, weight, vertices):
    """Return the monic cover whose leading term is the first one in the order (Koetter)."""
    _need_different(vertices)
    terms = _terms(weight, degree_bound(weight, cost_of(vertices)))
    # Polynomials are lists of the coefficients of the terms in their order, up to the leading one.
    # For each power of y there is the least one that has it in its leading term; all are monic.
    least = [[0] * k + [1] for k, (i, _) in enumerate(terms) if i == 0]
    ahead = _indexes_ahead(terms)
    for e, f, s in vertices:
        for a in range(s):
            for b in range(s - a):
                least = _covering(field, ahead, least, e, _parts(field, terms, (e, f), (a, b)))
    return _rows_of(terms, least[0])


def is_cover(field, rows, vertices):
    """Return True if a bivariate polynomial is a cover of some vertices, otherwise False."""
    if not rows:
        return False
    return all(multiplicity(field, rows, e, f) >= s for e, f, s in vertices)


def _need_different(vertices):
    """Raise an error if two vertices have the same elements."""
    seen = {}
    for k, (e, f, _) in enumerate(vertices):
        if (e, f) in seen:
            raise SamePoint(k)
        seen[(e, f)] = True


def _terms(weight, degree):
    """Return the pairs of exponents of all terms up to a weighted degree, in the order of terms."""
    return [(d - weight * j, j) for d in range(degree + 1) for j in range(d // weight + 1)]


def _indexes_ahead(terms):
    """Return, for each term, the index of the term times x, None if it is none of the terms."""
    indexes = {term: k for k, term in enumerate(terms)}
    return [indexes.get((i + 1, j)) for i, j in terms]


def _parts(field, terms, pair, exponents):
    """Return what each term adds to a coefficient of the polynomial that is moved by a pair."""
    across = _power_parts(field, len(terms), pair[0], exponents[0])
    up = _power_parts(field, len(terms), pair[1], exponents[1])
    return [field.times(across[i], up[j]) for i, j in terms]


def _power_parts(field, size, e, a):
    """Return the coefficients of x ** a in the first powers of x + e."""
    # The number of choices of a of i factors is odd just if i has all bits of a.
    return [field.power(e, i - a) if i & a == a else 0 for i in range(size)]


def _covering(field, ahead, least, e, parts):
    """Return the least polynomials of those for which the sum of the parts, at the element e, is 0.

    The polynomials are in the order of their leading terms, those that are returned, too.
    """
    found = []
    first, first_part = None, None
    for p in least:
        total = field.dot(parts, p)
        if total == 0:
            found.append(p)
        elif first is None:
            first, first_part = p, field.scaled(p, field.inverse(total))
        else:
            found.append(add(field, p, field.scaled(first_part, total)))
    # What leads behind all terms is not needed: the least cover is not made of it.
    if first is not None and ahead[len(first) - 1] is not None:
        found.append(_times_point(field, ahead, first, e))
    return sorted(found, key=len)


def _times_point(field, ahead, p, e):
    """Return the product with x + e."""
    total = field.scaled(p, e) + [0] * (ahead[len(p) - 1] + 1 - len(p))
    for k, coefficient in enumerate(p):
        total[ahead[k]] ^= coefficient
    return total


def _rows_of(terms, p):
    """Return the bivariate polynomial with these coefficients of the terms."""
    rows = []
    for (_, j), coefficient in zip(terms, p):
        # The terms with one power of y stand there with ascending powers of x.
        if j == len(rows):
            rows.append([])
        rows[j].append(coefficient)
    rows = [trimmed(row) for row in rows]
    while not rows[-1]:
        rows.pop()
    return rows
