"""Conjugates and minimal polynomials of the elements of a field."""

from farhaul.polys.points import from_roots


def conjugates(field, e):
    """Return the list of the element, its square, the square of this, and so on."""
    found = [e]
    power = field.times(e, e)
    while power != e:
        found.append(power)
        power = field.times(power, power)
    return found


def minimal(field, e):
    """Return the minimal polynomial of an element, a binary polynomial."""
    coefficients = from_roots(field, conjugates(field, e))
    return sum([bit << i for i, bit in enumerate(coefficients)])
