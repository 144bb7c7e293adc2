"""How far lists of near words reach, for a number of wiped places."""

from math import isqrt

from farhaul.errors import OutOfRange, TooFar
from farhaul.lists.covers import degree_bound
from farhaul.lists.forms import weight_of

MOST_MANY = 100000


def reach(code, wiped, many):
    """Return the greatest distance that is reached with a multiplicity, None if there is none."""
    left = _places_left(code, wiped)
    if many < 1 or many > MOST_MANY:
        raise OutOfRange(1)
    bound = degree_bound(weight_of(code), left * (many * (many + 1) // 2))
    return _not_below_0(left - (bound // many + 1))


def limit(code, wiped):
    """Return the greatest distance that any multiplicity reaches, None if there is none."""
    left = _places_left(code, wiped)
    return _not_below_0(left - (isqrt(left * weight_of(code)) + 1))


def enough(code, wiped, distance):
    """Return a multiplicity that reaches a distance up to the limit."""
    most = limit(code, wiped)
    if most is None:
        raise TooFar(-1)
    if distance > most:
        raise TooFar(most)
    weight = weight_of(code)
    left = code.n - wiped
    return weight * distance // ((left - distance) * (left - distance) - left * weight) + 1


def _places_left(code, wiped):
    """Return the number of places that are not wiped."""
    if wiped < 0 or wiped > code.n:
        raise OutOfRange(0)
    return code.n - wiped


def _not_below_0(distance):
    """Return a distance, None if it is below 0."""
    return None if distance < 0 else distance
