import random
import unittest

from farhaul.frames.finder import Finder, line_of
from farhaul.frames.marks import guard, least_mark
from reference import fresh, raises, spoil
from test_follower import parts_of
from test_marks import some_marks


def slow_found(mark, tolerance, size, bits):
    """The triples of place, payload and number of bits behind which it is told, and whether one is open."""
    found, k = [], 0
    while k + len(mark) <= len(bits):
        near = sum(1 for i, bit in enumerate(mark) if bits[k + i] != bit) <= tolerance
        if not near:
            k += 1
            continue
        end = k + len(mark) + size
        if end > len(bits):
            return found, True
        found.append((k, bits[k + len(mark):end], end))
        k = end
    return found, False


class TestFinder(unittest.TestCase):
    def assert_right(self, mark, tolerance, size, bits, rng):
        known = slow_found(mark, tolerance, size, bits)[0]
        for most in (1, 5, 60):
            finder, taken, told = Finder(mark, tolerance, size), 0, 0
            self.assertEqual((finder.taken(), finder.within()), (0, False))
            for part in parts_of(bits, rng, most):
                kept = list(part)
                found = finder.feed(part)
                self.assertEqual(part, kept)
                taken += len(part)
                now = [(place, payload) for place, payload, end in known[told:] if end <= taken]
                self.assertEqual(found, now)
                self.assertTrue(all(type(pair) is tuple for pair in found))
                told += len(now)
                self.assertEqual(finder.taken(), taken)
                self.assertIs(finder.within(), slow_found(mark, tolerance, size, bits[:taken])[1])
            self.assertEqual(told, len(known))

    def test_any_bits(self):
        rng = random.Random(611)
        for mark in some_marks(612)[::3]:
            for tolerance in (0, 1, 2, len(mark)):
                size = rng.choice((0, 1, 2, 7, 20))
                choices = rng.choice(((0, 1), (0, 1, None), (0, 0, 0, 1), (None,)))
                self.assert_right(mark, tolerance, size, [rng.choice(choices) for _ in range(100)], rng)

    def test_marks_in_bits(self):
        rng = random.Random(613)
        for mark in ([1], [0], [1, 1], [1, 0, 1], [0, 0, 0], [1, 1, 1, 0, 1], [1, 0, 1, 0, 1, 0, 1], [1] * 32):
            for size in (0, 1, 3, len(mark), 2 * len(mark)):
                for tolerance in (0, 1):
                    # Marks that overlap, and marks within payloads.
                    bits = []
                    while len(bits) < 150:
                        bits += rng.choice((mark, mark[:rng.randrange(len(mark))], [0], [1], [None]))
                    self.assert_right(mark, tolerance, size, bits, rng)

    def test_known_bits(self):
        self.assertEqual(Finder([1, 0, 1], 0, 2).feed([1, 0, 1, 0, 1, 1, 0, 1, 1, 0, 1]), [(0, [0, 1]), (5, [1, 0])])
        self.assertEqual(Finder([1, 0, 1], 0, 0).feed([1, 0, 1, 0, 1, 1, 0, 1]), [(0, []), (5, [])])
        self.assertEqual(Finder([1, 1], 1, 1).feed([0, None, 1, None]), [(1, [None])])
        self.assertEqual(Finder([1, 1], 0, 1).feed([None, 1, 1, None]), [(1, [None])])
        finder = Finder([1, 1], 0, 2)
        self.assertEqual(finder.feed([0, 1, 1]), [])
        self.assertIs(finder.within(), True)
        self.assertEqual(finder.feed([1]), [])
        self.assertEqual(finder.feed([1, 1, 1]), [(1, [1, 1])])
        self.assertIs(finder.within(), True)

    def test_wiped_bits_differ_from_both(self):
        for mark in ([0, 0, 0, 0], [1, 1, 1, 1], [1, 0, 0, 1]):
            for wiped in range(5):
                bits = [None] * wiped + mark[wiped:]
                for tolerance in range(5):
                    found = Finder(mark, tolerance, 0).feed(bits)
                    self.assertEqual(found, [(0, [])] if wiped <= tolerance else [])

    def test_wrong_sizes(self):
        for size in (0, 33, 40):
            for tolerance in (0, 50):
                raises(self, "WrongSize", 0, Finder, [1] * size, tolerance, 5)
        for size in (1, 32):
            self.assertEqual(Finder([1] * size, 0, 3).feed([1] * (size + 3)), [(0, [1] * 3)])

    def test_great_numbers(self):
        finder = Finder([1] * 32, 2 ** 32 - 1, 2 ** 32 - 1)
        self.assertEqual(finder.feed([0] * 500), [])
        self.assertEqual((finder.within(), finder.taken()), (True, 500))
        bits = [k * k % 7 % 2 for k in range(100000)]
        self.assertEqual(len(Finder([1, 0] * 16, 3, 64).feed(bits)), len(slow_found([1, 0] * 16, 3, 64, bits)[0]))

    def test_mark_is_copied(self):
        mark = [1, 0, 1]
        finder = Finder(mark, 0, 1)
        mark[0] = 0
        mark.append(1)
        self.assertEqual(finder.feed([0, 0, 1, 1, 0, 1, 0]), [(3, [0])])
        part = [1, 0, 1]
        finder.feed(part)
        part[0] = 0
        self.assertEqual(finder.feed([0]), [(7, [0])])

    def test_results_are_new_lists(self):
        finder = Finder([1], 0, 2)
        found = finder.feed([1, 0, 1, 1])
        spoil(found)
        self.assertEqual(finder.feed([0, 1, 1]), [(3, [0, 1])])

    def test_copies(self):
        rng = random.Random(614)
        for mark in ([1], [1, 1, 0], [1, 1, 1, 0, 1], [0, 0]):
            for cut in range(40):
                bits = [rng.choice((0, 1, 1, None)) for _ in range(80)]
                finder = Finder(mark, 1, 4)
                first = finder.feed(bits[:cut])
                other = finder.copy()
                self.assertIsInstance(other, Finder)
                known = [pair[:2] for pair in slow_found(mark, 1, 4, bits)[0]]
                self.assertEqual(first + finder.feed(bits[cut:]), known)
                self.assertEqual(finder.taken(), 80)
                self.assertEqual((other.taken(), other.within()), (cut, slow_found(mark, 1, 4, bits[:cut])[1]))
                third = other.copy()
                changed = bits[:cut] + [0] * 30
                known = [pair[:2] for pair in slow_found(mark, 1, 4, changed)[0]]
                self.assertEqual(first + other.feed([0] * 30), known)
                known = [pair[:2] for pair in slow_found(mark, 1, 4, bits)[0]]
                self.assertEqual(first + third.feed(bits[cut:]), known)


class TestLines(unittest.TestCase):
    def test_line_of(self):
        rng = random.Random(615)
        for mark in some_marks(616)[::5]:
            for many in range(4):
                payloads = [[rng.randrange(2) for _ in range(6)] for _ in range(many)]
                idles = [rng.choice((0, 1, 5)) for _ in range(many + 1)]
                known = []
                for k in range(many):
                    known += [0] * idles[k]
                    known += mark
                    known += payloads[k]
                known += [0] * idles[many]
                self.assertEqual(fresh(self, line_of, mark, payloads, idles), known)
        self.assertEqual(line_of([1], [], [1000]), [0] * 1000)
        self.assertEqual(line_of([1], [[]], [0, 1000]), [1] + [0] * 1000)

    def test_wrong_sizes(self):
        for size in (0, 33):
            for payloads, idles in (([], [0]), ([[1]], [0, 0]), ([], []), ([[1]], [0])):
                raises(self, "WrongSize", 0, line_of, [1] * size, payloads, idles)
        for payloads, idles in (([], []), ([], [0, 0]), ([[1]], [0]), ([[1]], [0, 0, 0]), ([[1], [0]], [1, 1])):
            raises(self, "WrongSize", 0, line_of, [1, 1], payloads, idles)

    def some_line(self, mark, size, rng):
        """A line, its payloads, the places of its frames, and those of the bits outside of payloads."""
        many = rng.randrange(1, 5)
        payloads = [rng.choice(([rng.randrange(2) for _ in range(size)], (mark * size)[:size])) for _ in range(many)]
        idles = [rng.choice((0, 1, len(mark), 40)) for _ in range(many + 1)]
        places, runs, at = [], [], 0
        for k in range(many):
            places.append(at + idles[k])
            runs.append(list(range(at, at + idles[k] + len(mark))))
            at += idles[k] + len(mark) + size
        runs.append(list(range(at, at + idles[many])))
        return line_of(mark, payloads, idles), places, runs

    def test_all_frames_are_found(self):
        rng = random.Random(617)
        marks = [(least_mark(5, 0), 0), (least_mark(7, 1), 1), ([1, 1, 1, 1, 1, 0, 0, 1, 1, 0, 1, 0, 1], 2),
                 (least_mark(12, 2), 2), ([1], 0), ([1] * 32, 0)]
        for mark, tolerance in marks:
            self.assertLess(2 * tolerance, guard(mark))
            for _ in range(40):
                size = rng.choice((0, 1, 9, 30))
                line, places, runs = self.some_line(mark, size, rng)
                received = [rng.choice((0, 1, None)) for _ in line]
                for run in runs:
                    # Of any bits that follow each other, as many as the mark has, only few are changed.
                    last = []
                    for place in run:
                        received[place] = line[place]
                        recent = [other for other in last if place - other < len(mark)]
                        if len(recent) < tolerance and rng.randrange(3) == 0:
                            received[place] = rng.choice((1 - line[place], None))
                            last.append(place)
                if size == 0:
                    # Without payloads all bits follow each other: nothing is changed.
                    received = list(line)
                finder, found = Finder(mark, tolerance, size), []
                for part in parts_of(received, rng, 11):
                    found += finder.feed(part)
                known = [(place, received[place + len(mark):place + len(mark) + size]) for place in places]
                self.assertEqual(found, known)
