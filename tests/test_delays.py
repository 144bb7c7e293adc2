import random
import unittest

from farhaul.weaving.delays import Delays, Undelays, delay_spread
from reference import raises, spoil

SIZES = [(1, 0), (1, 5), (1, 64), (2, 0), (2, 1), (2, 3), (3, 2), (4, 1), (5, 3), (7, 2), (64, 0), (64, 1), (17, 4)]


def slow_sent(lanes, step, fill, stream, far):
    """What goes out for a stream, from the times of the document."""
    sent = [fill] * len(stream)
    for t, item in enumerate(stream):
        lane = lanes - 1 - t % lanes if far else t % lanes
        if t + lane * step * lanes < len(stream):
            sent[t + lane * step * lanes] = item
    return sent


def in_parts(box, stream, rng, most):
    """What goes out if the stream is fed in parts of any sizes, some of them empty."""
    sent, k = [], 0
    while k < len(stream):
        part = stream[k:k + rng.randrange(most + 1)]
        kept = list(part)
        out = box.feed(part)
        assert len(out) == len(part) and part == kept
        sent += out
        k += len(part)
        spoil(part)
        spoil(out)
    assert box.feed([]) == []
    return sent


class TestDelays(unittest.TestCase):
    def test_item_by_item(self):
        rng = random.Random(411)
        for lanes, step in SIZES:
            stream = [rng.choice((None, -1, k)) for k in range(min(6000, 2 * lanes * lanes * step + 3 * lanes + 7))]
            for fill in (None, 0, -7, 2 ** 32 - 1):
                for kind, far in ((Delays, False), (Undelays, True)):
                    known = slow_sent(lanes, step, fill, stream, far)
                    self.assertEqual(kind(lanes, step, fill).feed(stream), known)
                    for most in (1, 3, 100):
                        self.assertEqual(in_parts(kind(lanes, step, fill), stream, rng, most), known)

    def test_each_item_comes_once_and_in_order(self):
        rng = random.Random(412)
        for lanes, step in SIZES:
            wait = (lanes - 1) * step * lanes
            for fill in (None, 5):
                stream = [rng.randrange(1000) for _ in range(wait + 50)]
                one, two = Delays(lanes, step, fill), Undelays(lanes, step, fill)
                given = two.feed(one.feed(stream))
                self.assertEqual(given, [fill] * wait + stream[:50])

    def test_the_two_sides_in_parts(self):
        rng = random.Random(413)
        for lanes, step in SIZES[:9]:
            wait = (lanes - 1) * step * lanes
            stream = [rng.choice((None, 3, k)) for k in range(wait + 300)]
            one, two = Delays(lanes, step, 9), Undelays(lanes, step, 9)
            given, k = [], 0
            while k < len(stream):
                size = rng.randrange(12)
                given += two.feed(one.feed(stream[k:k + size]))
                k += size
            self.assertEqual(given, [9] * wait + stream[:len(stream) - wait])

    def test_known_delays(self):
        self.assertEqual(Delays(2, 1, None).feed([1, 2, 3, 4, 5, 6]), [1, None, 3, 2, 5, 4])
        self.assertEqual(Undelays(2, 1, None).feed([1, None, 3, 2, 5, 4]), [None, None, 1, 2, 3, 4])
        self.assertEqual(Delays(1, 64, 0).feed([1, None, 3]), [1, None, 3])
        self.assertEqual(Delays(3, 0, 0).feed([1, None, 3, 4]), [1, None, 3, 4])
        self.assertEqual(Undelays(64, 0, 0).feed([1, None, 3, 4]), [1, None, 3, 4])

    def test_greatest_delays(self):
        wait = 63 * 64 * 64
        one, two = Delays(64, 64, None), Undelays(64, 64, None)
        given = []
        for _ in range(3):
            given += two.feed(one.feed(list(range(90000))))
        self.assertEqual(given[:wait], [None] * wait)
        self.assertEqual(given[wait:], [k % 90000 for k in range(270000 - wait)])

    def test_numbers_out_of_range(self):
        for kind in (Delays, Undelays):
            for bad in (0, -1, 65, 66, 2 ** 40, -(2 ** 40)):
                for step in (0, 64, -1, 65):
                    raises(self, "OutOfRange", 0, kind, bad, step, None)
                    raises(self, "OutOfRange", 0, delay_spread, bad, step, 5)
            for bad in (-1, 65, 66, 2 ** 40, -(2 ** 40)):
                for lanes in (1, 2, 64):
                    raises(self, "OutOfRange", 1, kind, lanes, bad, 0)
                    raises(self, "OutOfRange", 1, delay_spread, lanes, bad, 5)

    def test_copies(self):
        rng = random.Random(414)
        for kind, far in ((Delays, False), (Undelays, True)):
            for lanes, step in SIZES[:10]:
                stream = [rng.randrange(100) for _ in range(4 * lanes * lanes * step + 40)]
                half = len(stream) // 2 + 3
                box = kind(lanes, step, -1)
                box.feed(stream[:half])
                other = box.copy()
                self.assertIsInstance(other, kind)
                known = slow_sent(lanes, step, -1, stream, far)[half:]
                self.assertEqual(box.feed(stream[half:]), known)
                self.assertEqual(box.feed([7] * 50), slow_sent(lanes, step, -1, stream + [7] * 50, far)[-50:])
                third = other.copy()
                self.assertEqual(other.feed([8] * 50), slow_sent(lanes, step, -1, stream[:half] + [8] * 50, far)[-50:])
                self.assertEqual(third.feed(stream[half:]), known)


class TestSpread(unittest.TestCase):
    def test_against_counting(self):
        for lanes, step in [(a, b) for a in range(1, 7) for b in range(4)]:
            for turn in (0, 3):
                times = [turn * lanes + lane + lane * step * lanes for lane in range(lanes)]
                for burst in range(2 * lanes * lanes * step + 2 * lanes + 3):
                    known = max(sum(1 for t in times if start <= t < start + burst)
                                for start in range(max(0, times[0] - burst), times[-1] + 1))
                    self.assertEqual(delay_spread(lanes, step, burst), known)

    def test_great_numbers(self):
        for lanes, step in SIZES + [(64, 64)]:
            self.assertEqual(delay_spread(lanes, step, 0), 0)
            self.assertEqual(delay_spread(lanes, step, 1), 1)
            self.assertEqual(delay_spread(lanes, step, 2 ** 32 - 1), lanes)
            self.assertEqual(delay_spread(lanes, step, (lanes - 1) * (1 + lanes * step) + 1), lanes)
            if lanes > 1:
                self.assertEqual(delay_spread(lanes, step, (lanes - 1) * (1 + lanes * step)), lanes - 1)
