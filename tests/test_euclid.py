import random
import unittest

from farhaul.polys.euclid import common, stopped
from farhaul.polys.polys import add, divide, times
from reference import fresh, random_poly, small_fields, some_polys


class TestEuclid(unittest.TestCase):
    def test_common_of_small_ones(self):
        for field in small_fields()[:2]:
            rng = random.Random(3)
            monic = [[1]] + [[e, 1] for e in range(field.size())]
            monic += [[e, f, 1] for e in range(field.size()) for f in range(field.size())]
            polys = [[], [1], [2]] + [random_poly(field, rng.randrange(1, 4), rng) for _ in range(25)]
            for p in polys:
                for q in polys:
                    if not p and not q:
                        continue
                    both = [d for d in monic if not divide(field, p, d)[1] and not divide(field, q, d)[1]]
                    self.assertEqual(fresh(self, common, field, p, q), max(both, key=len))

    def test_common_with_zero(self):
        for field in small_fields():
            self.assertEqual(fresh(self, common, field, [], []), [])
            for p in some_polys(field, 1)[1:]:
                if p:
                    monic = times(field, p, [field.inverse(p[-1])])
                    self.assertEqual(fresh(self, common, field, p, []), monic)
                    self.assertEqual(fresh(self, common, field, [], p), monic)
                    self.assertEqual(fresh(self, common, field, p, p), monic)

    def test_common_of_products(self):
        for field in small_fields():
            rng = random.Random(field.modulus())
            for _ in range(60):
                d, p, q = (random_poly(field, rng.randrange(1, 6), rng) for _ in range(3))
                found = common(field, times(field, d, p), times(field, d, q))
                self.assertEqual(found[-1], 1)
                self.assertEqual(divide(field, found, d)[1], [])
                self.assertEqual(divide(field, times(field, d, p), found)[1], [])
                self.assertEqual(divide(field, times(field, d, q), found)[1], [])

    def test_stopped(self):
        for field in small_fields():
            for p in some_polys(field, 2):
                for q in some_polys(field, 3):
                    chain = chain_of(field, p, q)
                    for bound in range(9):
                        expected = [row for row in chain if len(row[0]) - 1 < bound][0]
                        found = fresh(self, stopped, field, p, q, bound)
                        self.assertIs(type(found), tuple)
                        self.assertEqual(found, expected)
                        rest, f, g = found
                        self.assertEqual(add(field, times(field, f, p), times(field, g, q)), rest)

    def test_zeros_at_the_end(self):
        for field in small_fields():
            for p in some_polys(field, 4, many=5):
                for q in some_polys(field, 5, many=5):
                    longer_p, longer_q = p + [0, 0], q + [0]
                    self.assertEqual(fresh(self, common, field, longer_p, longer_q), common(field, p, q))
                    for bound in range(5):
                        found = fresh(self, stopped, field, longer_p, longer_q, bound)
                        self.assertEqual(found, stopped(field, p, q, bound))

    def test_first_rest_is_looked_at_first(self):
        for field in small_fields():
            self.assertEqual(stopped(field, [], [1, 1], 0), ([], [1], []))
            self.assertEqual(stopped(field, [], [], 0), ([], [1], []))
            self.assertEqual(stopped(field, [2], [], 1), ([2], [1], []))
            self.assertEqual(stopped(field, [2], [], 0), ([], [], [1]))
            self.assertEqual(stopped(field, [1, 2], [3], 1), ([3], [], [1]))
            self.assertEqual(stopped(field, [3], [1, 2], 2 ** 32 - 1), ([3], [1], []))


def chain_of(field, p, q):
    """All rests with their factors, up to the rest 0."""
    chain = [(p, [1], [])]
    row = (q, [], [1])
    while row[0]:
        last = chain[-1]
        chain.append(row)
        quotient, rest = divide(field, last[0], row[0])
        f = add(field, last[1], times(field, quotient, row[1]))
        g = add(field, last[2], times(field, quotient, row[2]))
        row = (rest, f, g)
    return chain + [row]
