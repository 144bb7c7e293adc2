"""Shift registers, which put out one bit for each tap in each step."""

from farhaul.errors import BadTaps, OutOfRange


class Register:
    """A register with a memory of v bits and 2 to 4 taps."""

    def __init__(self, v, taps):
        if v < 1 or v > 5:
            raise OutOfRange(v)
        if len(taps) < 2 or len(taps) > 4:
            raise BadTaps(len(taps))
        for k, tap in enumerate(taps):
            if tap < 0 or tap >= 2 << v:
                raise BadTaps(k)
        if not any(taps):
            raise BadTaps(len(taps))
        self._memory = v
        self._taps = list(taps)
        self._rows = [[_odd(window & tap) for tap in taps] for window in range(2 << v)]

    def memory(self):
        """Return the number of bits of a state."""
        return self._memory

    def taps(self):
        """Return the list of the taps."""
        return list(self._taps)

    def next_state(self, state, bit):
        """Return the state to which a step leads."""
        return (bit + 2 * state) % (1 << self._memory)

    def out(self, state, bit):
        """Return the list of the bits that a step puts out."""
        return list(self._rows[bit + 2 * state])

    def run(self, state, bits):
        """Return the pair of the last state and the list of all bits that are put out."""
        row = []
        for bit in bits:
            row.extend(self._rows[bit + 2 * state])
            state = self.next_state(state, bit)
        return state, row

    def ended_row(self, message):
        """Return the bits that are put out for a message and as many inputs 0 as bits of memory."""
        return self.run(0, message + [0] * self._memory)[1]


def _odd(number):
    """Return 1 if the number of bits 1 of a number is odd, otherwise 0."""
    parity = 0
    while number > 0:
        parity ^= number & 1
        number >>= 1
    return parity
