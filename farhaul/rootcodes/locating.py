"""Finding the correction of a received list (Sugiyama's and Forney's algorithms)."""

from farhaul.polys.euclid import stopped
from farhaul.polys.polys import slope, times, trimmed, value
from farhaul.rootcodes.corrections import is_correction, without


def near_correction(code, received, wiped):
    """Return the correction that leads to the near word, or None if no word is near."""
    if len(wiped) > code.checks:
        return None
    pairs = _likely_pairs(code, without(received, wiped), wiped)
    # If a word is near, the pairs are its correction; if none is, they may be anything.
    if pairs is None or not is_correction(code, received, wiped, pairs):
        return None
    return pairs


def _likely_pairs(code, symbols, wiped):
    """Return the correction for the near word, if there is one, otherwise any pairs or None.

    The symbols are 0 in the wiped places, which are at most as many as the checks.
    """
    field = code.field
    syndromes = [value(field, symbols, e) for e in code.roots()]
    eraser = _locator(field, wiped)
    # The wiped places have no part in this product; only the wrong places do.
    seen = times(field, syndromes, eraser)[:code.checks]
    # With as many errors as can be mended, the evaluator has a degree less than this bound.
    bound = len(wiped) + (code.checks - len(wiped)) // 2
    evaluator, _, locator = stopped(field, [0] * code.checks + [1], trimmed(seen), bound)
    return _located_pairs(code, times(field, locator, eraser), evaluator)


def _locator(field, places):
    """Return the polynomial that is 0 just at the inverses of the points of the places."""
    p = [1]
    for place in places:
        p = times(field, p, [1, field.power(field.root(), place)])
    return p


def _located_pairs(code, locator, evaluator):
    """Return the pairs for the places that are located, None if a value cannot be told."""
    field = code.field
    tilt = slope(locator)
    pairs = []
    for place in range(code.n):
        spot = field.power(field.root(), -place)
        if value(field, locator, spot) == 0:
            steepness = value(field, tilt, spot)
            if steepness == 0:
                return None
            height = field.times(value(field, evaluator, spot), field.power(spot, code.first - 1))
            symbol = field.times(height, field.inverse(steepness))
            if symbol != 0:
                pairs.append((place, symbol))
    return pairs
