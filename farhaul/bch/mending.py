"""Mending received rows of a BCH code, and checking words."""

from farhaul.ranges import all_below
from farhaul.rootcodes.code import RootCode
from farhaul.rootcodes.corrections import applied
from farhaul.rootcodes.locating import near_correction
from farhaul.rootcodes.places import check_received


def mend(code, received, wiped):
    """Return the pair of the near word and the places in which it differs, or None."""
    check_received(received, wiped, code.n)
    # The words are just those words of this root code that are lists of bits, and a word is
    # near for both codes or for none.
    root_code = RootCode(code.field, code.n, code.first, code.design - 1)
    pairs = near_correction(root_code, received, wiped)
    if pairs is None:
        return None
    word = applied(root_code, received, wiped, pairs)
    if not all_below(word, 2):
        return None
    return word, _differing(received, wiped, word)


def check_word(code, received, wiped, word):
    """Return True if a list of integers is the near word, otherwise False."""
    check_received(received, wiped, code.n)
    if not all_below(word, 2) or not code.is_word(word):
        return False
    return 2 * len(_differing(received, wiped, word)) + len(wiped) < code.design


def _differing(received, wiped, word):
    """Return the places that are not wiped in which the word differs from the received row."""
    return [place for place in range(len(word)) if word[place] != received[place] and place not in wiped]
