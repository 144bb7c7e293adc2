import random
import unittest

from farhaul.fields.field import Field
from farhaul.lists.reaches import enough, limit, reach
from farhaul.rootcodes.code import RootCode
from reference import all_fields, raises


def bound_by_counting(weight, cost):
    """The degree bound of point 1006, counting the terms degree by degree."""
    degree, terms = -1, 0
    while terms <= cost:
        degree += 1
        terms += degree // weight + 1
    return degree


def slow_reach(code, wiped, many):
    m, weight = code.n - wiped, max(1, code.n - code.checks - 1)
    bound = bound_by_counting(weight, m * many * (many + 1) // 2)
    return max((t for t in range(m + 1) if many * (m - t) > bound), default=None)


def slow_limit(code, wiped):
    m, weight = code.n - wiped, max(1, code.n - code.checks - 1)
    return max((t for t in range(m + 1) if (m - t) ** 2 > m * weight), default=None)


def small_codes(seed, many=40):
    rng = random.Random(seed)
    found = []
    for _ in range(many):
        field = rng.choice(all_fields())
        n = rng.randrange(2, min(field.size(), 60))
        found.append(RootCode(field, n, rng.randrange(field.size() - 1), rng.randrange(1, n)))
    return found


class TestReaches(unittest.TestCase):
    def test_against_counting(self):
        none = 0
        for code in small_codes(1028):
            for wiped in {0, 1, code.n // 3, code.checks, code.n - 1, code.n}:
                for many in (1, 2, 3, 5, 16):
                    found = slow_reach(code, wiped, many)
                    self.assertEqual(reach(code, wiped, many), found)
                    none += found is None
                self.assertEqual(limit(code, wiped), slow_limit(code, wiped))
        self.assertLess(0, none)

    def test_great_multiplicities(self):
        field = Field(8, 285)
        for n, checks, wiped in ((255, 32, 0), (255, 200, 10), (100, 98, 3), (2, 1, 0), (20, 10, 12)):
            code = RootCode(field, n, 1, checks)
            m, weight = n - wiped, max(1, n - checks - 1)
            for many in (1000, 99999, 100000):
                found = reach(code, wiped, many)
                if limit(code, wiped) is None:
                    self.assertIsNone(found)
                    continue
                self.assertLessEqual(found, limit(code, wiped))
                # Up to the degree less than the score at the reach there are more terms than the cost.
                cost = m * many * (many + 1) // 2
                for t, enough_terms in ((found, True), (found + 1, False)):
                    degree = many * (m - t) - 1
                    terms = sum(degree - weight * j + 1 for j in range(degree // weight + 1))
                    self.assertIs(terms > cost, enough_terms)

    def test_no_reach_just_if_there_is_no_limit(self):
        for code in small_codes(1029):
            weight = max(1, code.n - code.checks - 1)
            for wiped in range(code.n + 1):
                most = limit(code, wiped)
                self.assertIs(most is None, code.n - wiped <= weight)
                for many in (1, 2, 7, 40):
                    found = reach(code, wiped, many)
                    self.assertIs(found is None, most is None)
                    if most is not None:
                        self.assertLessEqual(found, most)

    def test_no_places_left(self):
        for code in small_codes(1030, many=5):
            self.assertIsNone(reach(code, code.n, 1))
            self.assertIsNone(reach(code, code.n, 100000))
            self.assertIsNone(limit(code, code.n))

    def test_enough(self):
        for code in small_codes(1031):
            weight = max(1, code.n - code.checks - 1)
            for wiped in {0, 1, code.checks // 2, code.checks}:
                most, m = slow_limit(code, wiped), code.n - wiped
                for distance in range(0 if most is None else most + 1):
                    many = weight * distance // ((m - distance) ** 2 - m * weight) + 1
                    self.assertEqual(enough(code, wiped, distance), many)
                    self.assertLessEqual(distance, reach(code, wiped, many))

    def test_reaches_farther_than_half_of_the_checks(self):
        field = Field(4, 19)
        code = RootCode(field, 15, 1, 10)
        self.assertEqual([reach(code, 0, many) for many in (1, 2, 4)], [5, 6, 6])
        self.assertEqual((limit(code, 0), enough(code, 0, 7)), (7, 8))
        self.assertEqual((reach(code, 0, 7), reach(code, 0, 8)), (6, 7))

    def test_wiped_out_of_range(self):
        for code in small_codes(1032, many=6):
            for wiped in (-1, code.n + 1, 2 ** 40, -(2 ** 40)):
                for many in (1, 0, -1, 100001):
                    raises(self, "OutOfRange", 0, reach, code, wiped, many)
                raises(self, "OutOfRange", 0, limit, code, wiped)
                for distance in (0, 1, code.n, 2 ** 32 - 1):
                    raises(self, "OutOfRange", 0, enough, code, wiped, distance)

    def test_many_out_of_range(self):
        for code in small_codes(1033, many=6):
            for wiped in (0, 1, code.n):
                for many in (0, -1, 100001, 2 ** 40, -(2 ** 40)):
                    raises(self, "OutOfRange", 1, reach, code, wiped, many)

    def test_too_far(self):
        for code in small_codes(1034):
            for wiped in range(code.n + 1):
                most = slow_limit(code, wiped)
                for distance in (0, code.n, 2 ** 32 - 1) if most is None else (most + 1, most + 2, 2 ** 32 - 1):
                    raises(self, "TooFar", -1 if most is None else most, enough, code, wiped, distance)
