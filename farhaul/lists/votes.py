"""Votes for symbols at places, and the words that are elected by them (Koetter and Vardy)."""

from farhaul.errors import BadVote
from farhaul.lists.bivariate import is_bivariate, weighted_degree
from farhaul.lists.covers import cost_of, degree_bound, is_cover, least_cover
from farhaul.lists.curves import curves
from farhaul.lists.forms import spots_of, weight_of, words_of

MOST_MANY = 16


def score(code, votes, word):
    """Return the sum of the votes for the symbols of a list."""
    _need_votes(code, votes)
    return _score(votes, word)


def quorum(code, votes):
    """Return the greatest score with which a word need not be elected."""
    _need_votes(code, votes)
    return degree_bound(weight_of(code), cost_of(votes))


def elected(code, votes):
    """Return the pair of the list of the elected words with their scores, and the least cover."""
    least = quorum(code, votes) + 1
    cover = least_cover(code.field, weight_of(code), _vertices(code, votes))
    return [(word, _score(votes, word)) for word in _words_along(code, votes, least, cover)], cover


def check_elected(code, votes, least, words, cover):
    """Return True if a cover proves that these are all words with at least a score, otherwise False."""
    _need_votes(code, votes)
    if not is_bivariate(code.field, cover) or weighted_degree(cover, weight_of(code)) >= least:
        return False
    if not is_cover(code.field, cover, _vertices(code, votes)):
        return False
    return words == _words_along(code, votes, least, cover)


def _need_votes(code, votes):
    """Raise an error unless the votes are in range and in ascending order."""
    last = (-1, -1)
    for k, (place, symbol, many) in enumerate(votes):
        if place < 0 or place >= code.n or symbol < 0 or symbol >= code.field.size():
            raise BadVote(k)
        if many < 1 or many > MOST_MANY or (place, symbol) <= last:
            raise BadVote(k)
        last = (place, symbol)


def _vertices(code, votes):
    """Return the vertices for which the votes stand."""
    spots = spots_of(code, [(place, symbol) for place, symbol, many in votes])
    return [(point, height, many) for (point, height), (place, symbol, many) in zip(spots, votes)]


def _score(votes, word):
    """Return the sum of the votes for the symbols of a list."""
    return sum([many for place, symbol, many in votes if word[place] == symbol])


def _words_along(code, votes, least, cover):
    """Return the ascending list of the words of all roots of a cover with at least a score."""
    forms = curves(code.field, cover, code.n - code.checks)
    return sorted([word for word in words_of(code, forms) if _score(votes, word) >= least])
