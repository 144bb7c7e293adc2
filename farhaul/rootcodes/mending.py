"""Mending received lists of a root code, and checking and applying corrections."""

from farhaul.errors import WrongCorrection
from farhaul.rootcodes.corrections import applied, is_correction, wrong_pair
from farhaul.rootcodes.locating import near_correction
from farhaul.rootcodes.places import check_received


def mend(code, received, wiped):
    """Return the pair of the near word and its correction, or None if no word is near."""
    check_received(received, wiped, code.n)
    pairs = near_correction(code, received, wiped)
    if pairs is None:
        return None
    return applied(code, received, wiped, pairs), pairs


def check_correction(code, received, wiped, pairs):
    """Return True if the pairs are a correction that leads to the near word, otherwise False."""
    check_received(received, wiped, code.n)
    return is_correction(code, received, wiped, pairs)


def corrected(code, received, wiped, pairs):
    """Return the list after applying a correction."""
    check_received(received, wiped, code.n)
    wrong = wrong_pair(code, pairs)
    if wrong is not None:
        raise WrongCorrection(wrong)
    return applied(code, received, wiped, pairs)
