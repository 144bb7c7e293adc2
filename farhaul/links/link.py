"""Senders and receivers of frames."""

from farhaul.errors import OutOfRange
from farhaul.frames.finder import Finder
from farhaul.links.contents import MOST_NUMBER, payload
from farhaul.links.payloads import read_payload
from farhaul.links.plans import copied

MOST_IDLE = 10000


class Sender:
    """Numbers its frames, one after the other."""

    def __init__(self, plan, number=0):
        if number < 0 or number > MOST_NUMBER:
            raise OutOfRange(0)
        self._plan = copied(plan)
        self._number = number

    def send(self, data):
        """Return the bits of the next frame."""
        bits = self._plan.mark + payload(self._plan, self._number, data)
        self._number = (self._number + 1) % (MOST_NUMBER + 1)
        return bits

    def idle(self, count):
        """Return so many idle bits."""
        if count < 0 or count > MOST_IDLE:
            raise OutOfRange(0)
        return [0] * count

    def next_number(self):
        """Return the number of the next frame."""
        return self._number


class Receiver:
    """Finds frames in the bits that it is fed, and reads them."""

    def __init__(self, plan):
        self._plan = copied(plan)
        self._finder = Finder(plan.mark, plan.tolerance, plan.payload_bits())

    def feed(self, bits):
        """Take further bits, which may be None, and return the list of the events."""
        return [self._event(place, received) for place, received in self._finder.feed(bits)]

    def taken(self):
        """Return the number of all bits so far."""
        return self._finder.taken()

    def copy(self):
        """Return an independent receiver in the same state."""
        other = Receiver(self._plan)
        other._finder = self._finder.copy()
        return other

    def _event(self, place, received):
        """Return what is told of a frame that was found."""
        told = read_payload(self._plan, received)
        if told is None:
            return "lost", place
        number, data, _ = told
        return "message", place, number, data
