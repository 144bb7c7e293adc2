import random
import unittest

from farhaul.fields.binary import common, degree, divide, is_irreducible, least_irreducible, times
from reference import raises, reducibles, slow_rest, slow_times


class TestBinary(unittest.TestCase):
    def test_degree(self):
        self.assertEqual([degree(p) for p in (0, 1, 2, 3, 4, 7, 8)], [-1, 0, 1, 1, 2, 2, 3])
        self.assertEqual(degree(2 ** 32 - 1), 31)
        self.assertEqual(degree(2 ** 31), 31)

    def test_times(self):
        self.assertEqual(times(3, 3), 5)
        for p in range(40):
            for q in range(40):
                self.assertEqual(times(p, q), slow_times(p, q))
        self.assertEqual(times(2 ** 32 - 1, 2 ** 32 - 1), slow_times(2 ** 32 - 1, 2 ** 32 - 1))
        self.assertEqual(times(0, 2 ** 32 - 1), 0)
        self.assertEqual(times(2 ** 32 - 1, 1), 2 ** 32 - 1)

    def test_divide(self):
        self.assertEqual(divide(6, 3), (2, 0))
        self.assertIs(type(divide(6, 3)), tuple)
        rng = random.Random(1)
        pairs = [(p, q) for p in range(70) for q in range(1, 70)]
        pairs += [(rng.randrange(2 ** 32), rng.randrange(1, 2 ** rng.randrange(1, 33))) for _ in range(500)]
        for p, q in pairs:
            quotient, rest = divide(p, q)
            self.assertEqual(slow_times(quotient, q) ^ rest, p)
            self.assertLess(degree(rest), degree(q))

    def test_divide_by_zero(self):
        for p in (0, 1, 6, 2 ** 32 - 1):
            raises(self, "NoDivisor", 0, divide, p, 0)

    def test_common_of_small_ones(self):
        for p in range(64):
            for q in range(64):
                both = [d for d in range(1, 64) if slow_rest(p, d) == 0 and slow_rest(q, d) == 0]
                # If both are 0, everything divides them, and the answer is 0.
                self.assertEqual(common(p, q), max(both) if p or q else 0)

    def test_common_of_products(self):
        rng = random.Random(2)
        for _ in range(200):
            d, p, q = (rng.randrange(1, 2 ** 15) for _ in range(3))
            found = common(times(d, p), times(d, q))
            self.assertEqual(slow_rest(found, d), 0)
            self.assertEqual(slow_rest(times(d, p), found), 0)
            self.assertEqual(slow_rest(times(d, q), found), 0)
            self.assertEqual(common(slow_divide(times(d, p), found), slow_divide(times(d, q), found)), 1)
        self.assertEqual(common(0, 2 ** 32 - 1), 2 ** 32 - 1)
        self.assertEqual(common(2 ** 32 - 1, 0), 2 ** 32 - 1)
        self.assertEqual(common(0, 0), 0)

    def test_is_irreducible(self):
        found = reducibles(16)
        for p in range(2 ** 17):
            self.assertIs(is_irreducible(p), p >= 2 and not found[p], p)

    def test_is_irreducible_by_trial(self):
        for p in range(2 ** 8):
            divisors = [q for q in range(2, p) if degree(q) < degree(p) and slow_rest(p, q) == 0]
            self.assertIs(is_irreducible(p), degree(p) >= 1 and not divisors)

    def test_least_irreducible(self):
        found = reducibles(16)
        for m in range(1, 17):
            least = [p for p in range(1 << m, 2 << m) if not found[p]][0]
            self.assertEqual(least_irreducible(m), least)
        self.assertEqual([least_irreducible(m) for m in (1, 2, 3, 4, 8)], [2, 7, 11, 19, 283])

    def test_least_irreducible_out_of_range(self):
        for m in (0, -1, -5, 17, 18, 2 ** 32, 10 ** 40, -(10 ** 40)):
            raises(self, "OutOfRange", m, least_irreducible, m)


def slow_divide(p, q):
    quotient = 0
    while p.bit_length() >= q.bit_length():
        quotient |= 1 << (p.bit_length() - q.bit_length())
        p ^= q << (p.bit_length() - q.bit_length())
    return quotient
