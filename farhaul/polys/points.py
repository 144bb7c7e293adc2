"""Polynomials that are told by their roots or by their values."""

from farhaul.errors import NoDivisor, SamePoint
from farhaul.polys.polys import add, scaled, times, trimmed, value


def from_roots(field, roots):
    """Return the product of x + e for all elements e of a list."""
    p = [1]
    for e in roots:
        p = times(field, p, [e, 1])
    return p


def roots(field, p):
    """Return the ascending list of the elements at which the value is 0."""
    if not trimmed(p):
        raise NoDivisor(0)
    return [e for e in range(field.size()) if value(field, p, e) == 0]


def interpolate(field, points):
    """Return the polynomial of the least degree that has the given values at the given elements."""
    seen = {}
    for k, (e, _) in enumerate(points):
        if e in seen:
            raise SamePoint(k)
        seen[e] = True
    p = []
    product = [1]
    for e, f in points:
        # The product is 0 at all earlier points, so p keeps its values there.
        gap = field.add(f, value(field, p, e))
        factor = field.times(gap, field.inverse(value(field, product, e)))
        p = add(field, p, scaled(field, product, factor))
        product = times(field, product, [e, 1])
    return p
