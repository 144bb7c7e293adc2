"""Late followers, which give out each bit of an endless row after a fixed delay."""

from farhaul.errors import OutOfRange
from farhaul.paths.follower import Follower

MOST_DELAY = 200


class LateFollower:
    """A follower that gives out the bits of the best state, whether they are settled or not."""

    def __init__(self, shift_register, delay):
        if delay < 0 or delay > MOST_DELAY:
            raise OutOfRange(delay)
        self._shift_register = shift_register
        self._delay = delay
        self._follower = Follower(shift_register)
        self._given = []
        self._guesses = []

    def feed(self, part):
        """Feed a list of bits and None, and return the list of the bits that are given out now."""
        before = len(self._given)
        for item in part:
            self._follower.feed([item])
            # At most one turn more is whole than before, so at most one bit more is due.
            if self._follower.turns() - self._delay > len(self._given):
                self._give()
        return self._given[before:]

    def given(self):
        """Return the list of all bits that were given out."""
        return list(self._given)

    def guesses(self):
        """Return the ascending list of the indexes of the bits that were guesses."""
        return list(self._guesses)

    def turns(self):
        """Return the number of whole turns."""
        return self._follower.turns()

    def waiting(self):
        """Return the number of bits of a turn that is not whole."""
        return self._follower.waiting()

    def best(self):
        """Return the state with the least price, of several the one whose told inputs come first."""
        prices = self._follower.prices()
        least = min([price for price in prices if price is not None])
        return min([(self._follower.told(s), s) for s, price in enumerate(prices) if price == least])[1]

    def rest(self, state):
        """Return the list of the told inputs of a state from the next index on."""
        return self._follower.told(state)[len(self._given):]

    def copy(self):
        """Return an independent late follower in the same state."""
        other = LateFollower(self._shift_register, self._delay)
        other._follower = self._follower.copy()
        other._given = list(self._given)
        other._guesses = list(self._guesses)
        return other

    def _give(self):
        """Give out the next bit of the best state."""
        index = len(self._given)
        if index >= len(self._follower.given()):
            self._guesses.append(index)
        self._given.append(self._follower.told(self.best())[index])
