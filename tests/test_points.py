import itertools
import random
import unittest

from farhaul.fields.field import Field
from farhaul.polys.points import from_roots, interpolate, roots
from farhaul.polys.polys import times
from reference import all_fields, fresh, poly_value, raises, small_fields, some_polys


class TestPoints(unittest.TestCase):
    def test_from_roots(self):
        for field in small_fields():
            rng = random.Random(field.modulus())
            self.assertEqual(fresh(self, from_roots, field, []), [1])
            self.assertEqual(fresh(self, from_roots, field, [0]), [0, 1])
            self.assertEqual(fresh(self, from_roots, field, [3]), [3, 1])
            self.assertEqual(fresh(self, from_roots, field, [0, 0]), [0, 0, 1])
            self.assertEqual(fresh(self, from_roots, field, [2, 2]), [field.times(2, 2), 0, 1])
            for _ in range(20):
                some = [rng.randrange(field.size()) for _ in range(rng.randrange(7))]
                expected = [1]
                for e in some:
                    expected = times(field, [e, 1], expected)
                self.assertEqual(fresh(self, from_roots, field, some), expected)

    def test_roots(self):
        for field in small_fields():
            for p in some_polys(field, 1, many=30):
                if p:
                    expected = [e for e in range(field.size()) if poly_value(field, p, e) == 0]
                    self.assertEqual(fresh(self, roots, field, p), expected)
            for zero in ([], [0], [0, 0]):
                raises(self, "NoDivisor", 0, roots, field, zero)
            self.assertEqual(fresh(self, roots, field, [1]), [])
            self.assertEqual(fresh(self, roots, field, from_roots(field, [3, 0, 3, 2])), [0, 2, 3])

    def test_roots_that_are_all_elements(self):
        for field in all_fields():
            everything = list(range(field.size()))
            p = [0, 1] + [0] * (field.size() - 2) + [1]
            self.assertEqual(roots(field, p), everything)
            self.assertEqual(from_roots(field, everything), p)

    def test_interpolate_all_small_ones(self):
        field = Field(2, 7)
        for many in range(4):
            for places in itertools.permutations(range(4), many):
                for values in itertools.product(range(4), repeat=many):
                    points = list(zip(places, values))
                    p = fresh(self, interpolate, field, points)
                    self.assertLessEqual(len(p), many)
                    self.assertTrue(not p or p[-1] != 0)
                    self.assertEqual([poly_value(field, p, e) for e in places], list(values))

    def test_interpolate(self):
        for field in all_fields():
            rng = random.Random(field.modulus())
            for many in (0, 1, 2, 5, field.size()):
                many = min(many, field.size())
                places = rng.sample(range(field.size()), many)
                values = [rng.randrange(field.size()) for _ in places]
                p = interpolate(field, list(zip(places, values)))
                self.assertLessEqual(len(p), many)
                self.assertTrue(not p or p[-1] != 0)
                self.assertEqual([poly_value(field, p, e) for e in places], values)
            self.assertEqual(fresh(self, interpolate, field, []), [])
            self.assertEqual(fresh(self, interpolate, field, [(3, 0), (1, 0)]), [])

    def test_same_point(self):
        for field in small_fields():
            raises(self, "SamePoint", 1, interpolate, field, [(1, 2), (1, 2)])
            raises(self, "SamePoint", 1, interpolate, field, [(1, 2), (1, 3), (1, 0)])
            raises(self, "SamePoint", 3, interpolate, field, [(1, 2), (2, 2), (0, 2), (2, 1), (1, 1)])
            raises(self, "SamePoint", 2, interpolate, field, [(0, 2), (3, 2), (0, 2), (3, 2)])
