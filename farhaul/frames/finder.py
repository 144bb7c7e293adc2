"""Finding frames in bits that arrive in parts, and lines of frames."""

from farhaul.errors import WrongSize
from farhaul.frames.marks import distance, need_mark


class Finder:
    """Goes through received bits from the left, and tells the frames with their payloads."""

    def __init__(self, mark, tolerance, size):
        need_mark(mark)
        self._mark = list(mark)
        self._tolerance = tolerance
        self._size = size
        # Where the last mark is while its payload comes, otherwise None.
        self._place = None
        # The payload as far as it came, or the last bits among which a mark may begin.
        self._held = []
        self._taken = 0

    def feed(self, bits):
        """Take further bits, and return the pairs of place and payload that are found now."""
        found = []
        for bit in bits:
            self._take(bit)
            if self._place is not None and len(self._held) == self._size:
                found.append((self._place, self._held))
                self._place = None
                self._held = []
        return found

    def taken(self):
        """Return the number of all bits so far."""
        return self._taken

    def within(self):
        """Return True if a mark was found whose payload is not complete, otherwise False."""
        return self._place is not None

    def copy(self):
        """Return an independent object in the same state."""
        other = Finder(self._mark, self._tolerance, self._size)
        other._place = self._place
        other._held = list(self._held)
        other._taken = self._taken
        return other

    def _take(self, bit):
        """Take a bit, and see if a mark ends there, unless it is one of a payload."""
        self._held.append(bit)
        self._taken += 1
        if self._place is not None:
            return
        size = len(self._mark)
        self._held = self._held[-size:]
        if len(self._held) == size and distance(self._mark, self._held) <= self._tolerance:
            self._place = self._taken - size
            self._held = []


def line_of(mark, payloads, idles):
    """Return the bits of frames with these payloads, with so many idle bits before and behind them."""
    need_mark(mark)
    if len(idles) != len(payloads) + 1:
        raise WrongSize(0)
    line = []
    for idle, payload in zip(idles, payloads):
        line += [0] * idle + mark + payload
    return line + [0] * idles[-1]
