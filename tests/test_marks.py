import itertools
import random
import unittest

from farhaul.frames.finder import Finder, line_of
from farhaul.frames.marks import distance, false_places, guard, least_mark
from reference import fresh, raises


def slow_distance(one, two):
    return sum(1 for k in range(len(one)) if one[k] != two[k])


def before(mark, j):
    """The list of point 702: j zeros followed by the first bits of the mark."""
    return ([0] * j + mark)[:len(mark)]


def slow_guard(mark):
    return min(slow_distance(mark, before(mark, j)) for j in range(1, len(mark) + 1))


def slow_false_places(mark, tolerance):
    """Point 705, by its words."""
    least = slow_guard(mark)
    if least > 2 * tolerance:
        return None
    j = [k for k in range(1, len(mark) + 1) if slow_distance(mark, before(mark, k)) == least][0]
    return j, [k for k in range(len(mark)) if mark[k] != before(mark, j)[k]][:(least + 1) // 2]


def some_marks(seed):
    rng = random.Random(seed)
    marks = [list(mark) for size in range(1, 7) for mark in itertools.product((0, 1), repeat=size)]
    for size in (7, 11, 13, 16, 20, 31, 32):
        marks += [[0] * size, [1] * size, [0] * (size - 1) + [1], [1] + [0] * (size - 1)]
        marks += [[rng.randrange(2) for _ in range(size)] for _ in range(6)]
    return marks


class TestDistance(unittest.TestCase):
    def test_distance(self):
        for size in range(5):
            for one in itertools.product((0, 1), repeat=size):
                for two in itertools.product((0, 1), repeat=size):
                    self.assertEqual(fresh(self, distance, list(one), list(two)), slow_distance(one, two))

    def test_long_lists(self):
        one = [k * k % 5 % 2 for k in range(100000)]
        two = [k % 3 % 2 for k in range(100000)]
        self.assertEqual(distance(one, two), slow_distance(one, two))
        self.assertEqual(distance([0] * 100000, [1] * 100000), 100000)

    def test_different_sizes(self):
        for sizes in ((0, 1), (1, 0), (3, 4), (5, 2), (32, 33), (100, 0)):
            raises(self, "WrongSize", 0, distance, [0] * sizes[0], [0] * sizes[1])


class TestGuard(unittest.TestCase):
    def test_guard(self):
        for mark in some_marks(601):
            self.assertEqual(fresh(self, guard, mark), slow_guard(mark))

    def test_known_guards(self):
        self.assertEqual([guard(mark) for mark in ([0], [1], [0, 0, 0], [1] * 32, [0] * 32)], [0, 1, 0, 1, 0])
        # The Barker lists differ from themselves in about half of the places.
        self.assertEqual(guard([1, 1, 1, 0, 1]), 3)
        self.assertEqual(guard([1, 1, 1, 0, 0, 1, 0]), 4)
        self.assertEqual(guard([1, 1, 1, 1, 1, 0, 0, 1, 1, 0, 1, 0, 1]), 7)

    def test_wrong_sizes(self):
        for size in (0, 33, 34, 100):
            for bit in (0, 1):
                raises(self, "WrongSize", 0, guard, [bit] * size)
                for tolerance in (0, 1, 40, 2 ** 32 - 1):
                    raises(self, "WrongSize", 0, false_places, [bit] * size, tolerance)


class TestFalsePlaces(unittest.TestCase):
    def test_false_places(self):
        for mark in some_marks(602):
            for tolerance in (0, 1, 2, 3, 5, 16, 32, 2 ** 32 - 1):
                found = fresh(self, false_places, mark, tolerance)
                self.assertEqual(found, slow_false_places(mark, tolerance))
                if found is not None:
                    self.assertIs(type(found), tuple)

    def test_where_it_begins(self):
        for mark in some_marks(603):
            for tolerance in range(8):
                self.assertIs(false_places(mark, tolerance) is None, slow_guard(mark) > 2 * tolerance)

    def test_a_frame_is_found_ahead_of_the_mark(self):
        rng = random.Random(604)
        for mark in some_marks(605):
            for tolerance in range(slow_guard(mark) // 2, 5):
                told = false_places(mark, tolerance)
                if told is None:
                    continue
                j, places = told
                self.assertLessEqual(len(places), tolerance)
                payload = [rng.randrange(2) for _ in range(9)]
                idle = len(mark) + rng.randrange(5)
                line = line_of(mark, [payload], [idle, 3 + len(mark)])
                for place in places:
                    line[idle - j + place] ^= 1
                found = Finder(mark, tolerance, 9).feed(line)
                self.assertLess(found[0][0], idle)


class TestLeastMark(unittest.TestCase):
    def test_against_all_marks(self):
        for size in range(1, 9):
            for tolerance in range(6):
                known = [list(mark) for mark in itertools.product((0, 1), repeat=size)
                         if slow_guard(list(mark)) > 2 * tolerance]
                self.assertEqual(fresh(self, least_mark, size, tolerance), known[0] if known else None)

    def test_greater_sizes(self):
        for size in range(9, 13):
            for tolerance in range(5):
                found = least_mark(size, tolerance)
                known = None
                for mark in itertools.product((0, 1), repeat=size):
                    if slow_guard(list(mark)) > 2 * tolerance:
                        known = list(mark)
                        break
                self.assertEqual(found, known)
            self.assertIsNone(least_mark(size, 2 ** 32 - 1))

    def test_tolerance_0(self):
        for size in range(1, 13):
            self.assertEqual(least_mark(size, 0), [0] * (size - 1) + [1])

    def test_sizes_out_of_range(self):
        for size in (0, -1, 13, 14, 32, 2 ** 40, -(2 ** 40)):
            for tolerance in (0, 1, 2 ** 32 - 1):
                raises(self, "OutOfRange", 0, least_mark, size, tolerance)
