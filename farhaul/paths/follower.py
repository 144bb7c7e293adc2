"""Followers, which are fed a received row in parts and give the bits that are settled."""

from farhaul.errors import NoPath, OutOfRange
from farhaul.paths.turns import turn_prices


class Follower:
    """The told inputs of all states of a shift register, behind the turns that were fed."""

    def __init__(self, shift_register):
        self._shift_register = shift_register
        # For each state None, or its price and those of its told inputs that are not yet given.
        self._ways = [(0, [])] + [None] * ((1 << shift_register.memory()) - 1)
        self._given = []
        self._turns = 0
        self._waiting = []

    def feed(self, part):
        """Feed a list of bits and None, and return the list of the bits that are given now."""
        size = len(self._shift_register.taps())
        fed = self._waiting + part
        whole = len(fed) - len(fed) % size
        before = len(self._given)
        for k in range(0, whole, size):
            self._take(fed[k:k + size])
        self._waiting = fed[whole:]
        return self._given[before:]

    def given(self):
        """Return the list of the given bits."""
        return list(self._given)

    def turns(self):
        """Return the number of whole turns."""
        return self._turns

    def waiting(self):
        """Return the number of bits of a turn that is not whole."""
        return len(self._waiting)

    def prices(self):
        """Return the list of the prices of the states, None for one that is not reached."""
        return [None if way is None else way[0] for way in self._ways]

    def told(self, state):
        """Return the list of the told inputs of a state."""
        if state < 0 or state >= len(self._ways):
            raise OutOfRange(state)
        way = self._ways[state]
        if way is None:
            raise NoPath(state)
        return self._given + way[1]

    def copy(self):
        """Return an independent follower in the same state."""
        other = Follower(self._shift_register)
        other._ways = list(self._ways)
        other._given = list(self._given)
        other._turns = self._turns
        other._waiting = list(self._waiting)
        return other

    def _take(self, turn):
        """Go on by a turn, and give what all states agree on."""
        prices = turn_prices(self._shift_register, turn)
        ways = [_best_way(self._ways, prices, state) for state in range(len(self._ways))]
        rows = [way[1] for way in ways if way is not None]
        shared = _shared_size(rows)
        self._given.extend(rows[0][:shared])
        self._ways = [None if way is None else (way[0], way[1][shared:]) for way in ways]
        self._turns += 1


def _best_way(ways, prices, state):
    """Return the best way to a state behind a turn, None if no way leads to it."""
    found = []
    for before in (state // 2, state // 2 + len(ways) // 2):
        if ways[before] is not None:
            total, inputs = ways[before]
            found.append((total + prices[2 * before + state % 2], inputs))
    if not found:
        return None
    total, inputs = min(found)
    return total, inputs + [state % 2]


def _shared_size(rows):
    """Return with how many equal bits all rows begin, which have one size."""
    for k, bit in enumerate(rows[0]):
        if any([row[k] != bit for row in rows]):
            return k
    return len(rows[0])
