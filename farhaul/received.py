"""Received bits, some of which are wiped: these are None."""


def differing(bits, received):
    """Return the number of places that are not wiped in which the received bits are others."""
    return sum([other is not None and other != bit for bit, other in zip(bits, received)])
