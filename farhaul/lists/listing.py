"""Lists of all words that are near to what was received (Guruswami and Sudan), and their check."""

from farhaul.errors import OutOfRange, TooFar
from farhaul.lists.reaches import reach
from farhaul.lists.votes import check_elected, elected
from farhaul.rootcodes.corrections import without
from farhaul.rootcodes.places import check_received

MOST_MANY = 16


def list_near(code, received, wiped, distance, many):
    """Return the pair of the entries of all words up to a distance, and the least cover."""
    _need_received(code, received, wiped, many)
    most = reach(code, len(wiped), many)
    if most is None:
        raise TooFar(-1)
    if distance > most:
        raise TooFar(most)
    pairs, cover = elected(code, _votes(received, wiped, many))
    least = _least_score(code, wiped, distance, many)
    return [_entry(code, received, wiped, word) for word, score in pairs if score >= least], cover


def check_list(code, received, wiped, distance, many, entries, cover):
    """Return True if a cover proves that these are the entries of all words up to a distance."""
    _need_received(code, received, wiped, many)
    votes = _votes(received, wiped, many)
    words = [word for word, _ in entries]
    if not check_elected(code, votes, _least_score(code, wiped, distance, many), words, cover):
        return False
    return entries == [_entry(code, received, wiped, word) for word in words]


def nearest(code, received, wiped, many):
    """Return the pair of the least distance of a word within the reach and the entries, or None."""
    _need_received(code, received, wiped, many)
    # The elected words are just those up to the reach; there are none if there is no reach.
    pairs, _ = elected(code, _votes(received, wiped, many))
    if not pairs:
        return None
    best = max([score for _, score in pairs])
    entries = [_entry(code, received, wiped, word) for word, score in pairs if score == best]
    return code.n - len(wiped) - best // many, entries


def _need_received(code, received, wiped, many):
    """Raise an error unless what is received has its form, and the multiplicity is in its range."""
    check_received(received, wiped, code.n)
    if many < 1 or many > MOST_MANY:
        raise OutOfRange(many)


def _votes(received, wiped, many):
    """Return the votes for the received symbols of the places that are not wiped."""
    return [(place, symbol, many) for place, symbol in enumerate(received) if place not in wiped]


def _least_score(code, wiped, distance, many):
    """Return the score of words at a distance."""
    return many * (code.n - len(wiped) - distance)


def _entry(code, received, wiped, word):
    """Return the pair of a word and the correction that leads to it."""
    pairs = []
    for place, symbol in enumerate(without(received, wiped)):
        if symbol != word[place]:
            pairs.append((place, code.field.add(symbol, word[place])))
    return word, pairs
