import unittest

from farhaul.polys.polys import add, divide, scaled, slope, times, trimmed, value
from reference import all_fields, fresh, poly_value, raises, small_fields, some_polys


class TestPolys(unittest.TestCase):
    def test_trimmed(self):
        self.assertEqual(fresh(self, trimmed, []), [])
        self.assertEqual(fresh(self, trimmed, [0]), [])
        self.assertEqual(fresh(self, trimmed, [0, 0, 0]), [])
        self.assertEqual(fresh(self, trimmed, [0, 1]), [0, 1])
        self.assertEqual(fresh(self, trimmed, [3, 0, 2, 0, 0]), [3, 0, 2])
        self.assertEqual(fresh(self, trimmed, [0, 255, 0]), [0, 255])

    def test_add(self):
        for field in small_fields():
            for p in some_polys(field, 1):
                for q in some_polys(field, 2):
                    total = fresh(self, add, field, p, q)
                    for i in range(10):
                        self.assertEqual(at(total, i), at(p, i) ^ at(q, i))
                    self.assert_poly(total)
                self.assertEqual(add(field, p, p), [])

    def test_times(self):
        for field in small_fields():
            for p in some_polys(field, 3):
                for q in some_polys(field, 4):
                    total = fresh(self, times, field, p, q)
                    self.assert_poly(total)
                    for k in range(16):
                        coefficient = 0
                        for i in range(k + 1):
                            coefficient ^= field.times(at(p, i), at(q, k - i))
                        self.assertEqual(at(total, k), coefficient)
                self.assertEqual(fresh(self, times, field, p, []), [])
                self.assertEqual(fresh(self, times, field, p, [1]), p)

    def test_scaled(self):
        for field in small_fields():
            for p in some_polys(field, 5):
                self.assertEqual(fresh(self, scaled, field, p, 0), [])
                self.assertEqual(fresh(self, scaled, field, p, 1), p)
                for e in range(field.size()):
                    self.assertEqual(fresh(self, scaled, field, p, e), times(field, p, trimmed([e])))

    def test_divide(self):
        for field in small_fields():
            for p in some_polys(field, 6, most=9):
                for q in some_polys(field, 7):
                    if not q:
                        raises(self, "NoDivisor", 0, divide, field, p, q)
                        continue
                    pair = fresh(self, divide, field, p, q)
                    self.assertIs(type(pair), tuple)
                    quotient, rest = pair
                    self.assert_poly(quotient)
                    self.assert_poly(rest)
                    self.assertLess(len(rest), len(q))
                    self.assertEqual(add(field, times(field, quotient, q), rest), p)

    def test_value(self):
        for field in small_fields():
            for p in some_polys(field, 8):
                for e in range(field.size()):
                    self.assertEqual(fresh(self, value, field, p, e), poly_value(field, p, e))
            self.assertEqual(value(field, [], 1), 0)

    def test_slope(self):
        self.assertEqual(fresh(self, slope, []), [])
        self.assertEqual(fresh(self, slope, [5]), [])
        self.assertEqual(fresh(self, slope, [5, 6]), [6])
        self.assertEqual(fresh(self, slope, [5, 6, 7]), [6])
        self.assertEqual(fresh(self, slope, [5, 6, 7, 8]), [6, 0, 8])
        self.assertEqual(fresh(self, slope, [5, 0, 7, 0, 9]), [])

    def test_slope_of_products(self):
        for field in small_fields():
            for p in some_polys(field, 9):
                for q in some_polys(field, 10):
                    both = add(field, times(field, slope(p), q), times(field, p, slope(q)))
                    self.assertEqual(slope(times(field, p, q)), both)

    def test_zeros_at_the_end(self):
        for field in small_fields():
            for p in some_polys(field, 11, many=5):
                for q in some_polys(field, 12, many=5):
                    longer_p, longer_q = p + [0], q + [0, 0]
                    for call in (add, times):
                        self.assertEqual(fresh(self, call, field, longer_p, longer_q), call(field, p, q))
                    if q:
                        self.assertEqual(fresh(self, divide, field, longer_p, longer_q), divide(field, p, q))
                    else:
                        raises(self, "NoDivisor", 0, divide, field, longer_p, longer_q)
                for e in range(4):
                    self.assertEqual(fresh(self, scaled, field, p + [0], e), scaled(field, p, e))
                    self.assertEqual(fresh(self, value, field, p + [0], e), value(field, p, e))
                self.assertEqual(fresh(self, slope, p + [0, 0]), slope(p))

    def test_great_polynomials(self):
        for field in all_fields():
            p = [1 + k % (field.size() - 1) for k in range(600)]
            q = [1 + k % (field.size() - 1) for k in range(200)]
            quotient, rest = divide(field, p, q)
            self.assertEqual(add(field, times(field, quotient, q), rest), p)
            for e in (0, 1, field.root(), field.size() - 1):
                product_value = field.times(value(field, q, e), value(field, quotient, e))
                self.assertEqual(value(field, p, e), product_value ^ value(field, rest, e))

    def assert_poly(self, p):
        self.assertIs(type(p), list)
        self.assertTrue(not p or p[-1] != 0)


def at(p, i):
    return p[i] if i < len(p) else 0
