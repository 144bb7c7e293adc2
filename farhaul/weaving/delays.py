"""Delays: lanes that are taken in turn, each of which holds back its items for another time."""

from farhaul.errors import OutOfRange


class Lanes:
    """Lanes that hold back each item until a number of further ones have come to the lane."""

    def __init__(self, waits, fill):
        # Each lane holds the last items, the one that came at its turn t in the place t % wait.
        self._held = [[fill] * wait for wait in waits]
        self._time = 0

    def passed(self, items):
        """Take in items, one at each time, and return what comes out at these times."""
        return [self._next(item) for item in items]

    def copy(self):
        """Return independent lanes in the same state."""
        other = Lanes([], None)
        other._held = [list(held) for held in self._held]
        other._time = self._time
        return other

    def _next(self, item):
        """Take in an item, and return what comes out."""
        turn, lane = divmod(self._time, len(self._held))
        self._time += 1
        held = self._held[lane]
        if not held:
            return item
        place = turn % len(held)
        out = held[place]
        held[place] = item
        return out


class Delays:
    """The sending side, on which each lane waits longer than the one before it."""

    def __init__(self, lanes, step, fill):
        _need_lanes(lanes, step)
        self._lanes = Lanes([lane * step for lane in range(lanes)], fill)

    def feed(self, items):
        """Take further items of the stream, and return what is sent at their times."""
        return self._lanes.passed(items)

    def copy(self):
        """Return an independent object in the same state."""
        other = Delays(1, 0, None)
        other._lanes = self._lanes.copy()
        return other


class Undelays:
    """The other side, on which each lane waits less long than the one before it."""

    def __init__(self, lanes, step, fill):
        _need_lanes(lanes, step)
        self._lanes = Lanes([(lanes - 1 - lane) * step for lane in range(lanes)], fill)

    def feed(self, items):
        """Take further items that arrive, and return what is given out at their times."""
        return self._lanes.passed(items)

    def copy(self):
        """Return an independent object in the same state."""
        other = Undelays(1, 0, None)
        other._lanes = self._lanes.copy()
        return other


def delay_spread(lanes, step, burst):
    """Return the greatest number of items of one turn that are sent in a burst."""
    _need_lanes(lanes, step)
    gap = lanes * step
    return min(lanes, (burst + gap) // (1 + gap))


def _need_lanes(lanes, step):
    """Raise an error unless the number of lanes and the step are in their range."""
    if lanes < 1 or lanes > 64:
        raise OutOfRange(0)
    if step < 0 or step > 64:
        raise OutOfRange(1)
