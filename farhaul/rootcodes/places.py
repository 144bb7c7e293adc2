"""Lists of places and received lists, and what is wrong with them."""

from farhaul.errors import WrongPlace, WrongSize


def check_places(places, n):
    """Raise an error unless the places are from 0 to n - 1 and in ascending order."""
    last = -1
    for k, place in enumerate(places):
        if place <= last or place >= n:
            raise WrongPlace(k)
        last = place


def check_received(received, wiped, n):
    """Raise an error unless n items are received, and the wiped ones are places of them."""
    if len(received) != n:
        raise WrongSize(0)
    check_places(wiped, n)
