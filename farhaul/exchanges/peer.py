"""Peers, which send messages until they are acknowledged, and give those that they receive in order."""

from farhaul.errors import OutOfRange

MOST_WINDOW = 32
MOST_WAIT = 1000000
MASK_BITS = 32


class Peer:
    """One side of an exchange."""

    def __init__(self, window, wait):
        if window < 1 or window > MOST_WINDOW:
            raise OutOfRange(0)
        if wait < 1 or wait > MOST_WAIT:
            raise OutOfRange(1)
        self._window = window
        self._wait = wait
        self._offered = []
        # The times at which messages were sent last; they are sent for the first time in their order.
        self._times = []
        # The numbers from the base on that are acknowledged.
        self._base = 0
        self._acknowledged = {}
        # The messages from the next number on that were received.
        self._next = 0
        self._kept = {}
        self._owes = False
        self._now = None

    def offer(self, data):
        """Offer a message, and return its number."""
        self._offered.append(list(data))
        return len(self._offered) - 1

    def packets(self, now):
        """Return the list of the packets that are sent at a time."""
        if self._now is not None and now < self._now:
            raise OutOfRange(0)
        self._now = now
        ack, mask = self._next, self._mask()
        sent = []
        for number in self._due(now):
            sent.append((number, list(self._offered[number]), ack, mask))
            if number < len(self._times):
                self._times[number] = now
            else:
                self._times.append(now)
        if not sent and self._owes:
            sent.append((None, None, ack, mask))
        self._owes = False
        return sent

    def receive(self, packet):
        """Take a packet, and return the list of the data of the messages that are given now."""
        number, data, ack, mask = packet
        self._take_ack(ack, mask)
        if number is None:
            return []
        self._owes = True
        if self._next <= number < self._next + self._window and number not in self._kept:
            self._kept[number] = list(data)
        given = []
        while self._next in self._kept:
            given.append(list(self._kept.pop(self._next)))
            self._next += 1
        return given

    def base_number(self):
        """Return the least number that is not acknowledged."""
        return self._base

    def next_number(self):
        """Return the least number whose message was not received yet."""
        return self._next

    def open_numbers(self):
        """Return the ascending list of the numbers of the open messages."""
        return [k for k in range(self._base, len(self._offered)) if k not in self._acknowledged]

    def copy(self):
        """Return an independent peer in the same state."""
        other = Peer(self._window, self._wait)
        # The lists of data never change and are never handed out, so both peers may have the same ones.
        other._offered = list(self._offered)
        other._times = list(self._times)
        other._base = self._base
        other._acknowledged = dict(self._acknowledged)
        other._next = self._next
        other._kept = dict(self._kept)
        other._owes = self._owes
        other._now = self._now
        return other

    def _due(self, now):
        """Return the ascending list of the numbers of the messages that are due."""
        end = min(len(self._offered), self._base + self._window)
        return [k for k in range(self._base, end) if k not in self._acknowledged and self._is_late(k, now)]

    def _is_late(self, number, now):
        """Return True if a message was not sent yet, or sent long enough ago."""
        return number >= len(self._times) or now - self._times[number] >= self._wait

    def _mask(self):
        """Return the mask of the messages behind the next number that were received."""
        return sum([1 << i for i in range(MASK_BITS) if self._next + 1 + i in self._kept])

    def _take_ack(self, ack, mask):
        """Take note of the messages that are acknowledged, if they were sent."""
        if ack > len(self._times):
            return
        numbers = list(range(self._base, ack)) + [ack + 1 + i for i in range(MASK_BITS) if mask >> i & 1]
        for number in numbers:
            if self._base <= number < len(self._times):
                self._acknowledged[number] = True
        while self._base in self._acknowledged:
            self._acknowledged.pop(self._base)
            self._base += 1
