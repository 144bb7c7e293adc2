"""Forms: the polynomials whose values, with a multiplier for each place, are the words of a root code."""

from farhaul.errors import WrongSize
from farhaul.polys.points import interpolate
from farhaul.polys.polys import value
from farhaul.rootcodes.weights import weights_of


def points_of(code):
    """Return the list of the points of all places."""
    return [code.field.power(code.field.root(), place) for place in range(code.n)]


def multipliers(code):
    """Return the list of the multipliers of all places."""
    return weights_of(code.field, code.first, points_of(code))


def weight_of(code):
    """Return the weight of the code."""
    return max(1, code.n - code.checks - 1)


def word_of(code, form):
    """Return the word of a polynomial."""
    if len(form) > code.n - code.checks:
        raise WrongSize(0)
    return words_of(code, [form])[0]


def words_of(code, forms):
    """Return the list of the words of some polynomials, none of which has too many coefficients."""
    places = list(zip(points_of(code), multipliers(code)))
    field = code.field
    return [[field.times(factor, value(field, form, point)) for point, factor in places] for form in forms]


def form_of(code, word):
    """Return the form of a word."""
    spots = spots_of(code, list(enumerate(word)))
    # As many places as coefficients are enough.
    return interpolate(code.field, spots[:code.n - code.checks])


def spots_of(code, pairs):
    """Return the pairs of the point and the height for some pairs of a place and a symbol."""
    points = points_of(code)
    factors = multipliers(code)
    return [(points[place], code.field.times(symbol, code.field.inverse(factors[place]))) for place, symbol in pairs]
