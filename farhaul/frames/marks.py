"""Marks, with which frames begin, and how well they are told from what stands before them."""

from farhaul.errors import OutOfRange, WrongSize

MOST_BITS = 32


def distance(one, two):
    """Return the number of places in which two lists of bits differ."""
    if len(one) != len(two):
        raise WrongSize(0)
    return sum([bit != other for bit, other in zip(one, two)])


def guard(mark):
    """Return the least distance of a mark and the bits before it, behind enough idle bits."""
    need_mark(mark)
    return min([distance(mark, _bits_before(mark, j)) for j in range(1, len(mark) + 1)])


def false_places(mark, tolerance):
    """Return the pair of a distance from the mark and the turned bits that look like a mark there.

    It is None if the guard is great enough for the tolerance.
    """
    least = guard(mark)
    if least > 2 * tolerance:
        return None
    j = 1
    while distance(mark, _bits_before(mark, j)) != least:
        j += 1
    bits = _bits_before(mark, j)
    places = [place for place in range(len(mark)) if mark[place] != bits[place]]
    return j, places[:(least + 1) // 2]


def least_mark(size, tolerance):
    """Return the first mark of a size whose guard is great enough, or None if there is none."""
    if size < 1 or size > 12:
        raise OutOfRange(0)
    for number in range(1 << size):
        mark = [number >> place & 1 for place in reversed(range(size))]
        if guard(mark) > 2 * tolerance:
            return mark
    return None


def need_mark(mark):
    """Raise an error unless a list of bits has the size of a mark."""
    if len(mark) < 1 or len(mark) > MOST_BITS:
        raise WrongSize(0)


def _bits_before(mark, j):
    """Return as many bits as the mark has, from j places before it on, behind enough idle bits."""
    return [0] * j + mark[:len(mark) - j]
