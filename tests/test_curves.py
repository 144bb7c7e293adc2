import itertools
import random
import unittest

from farhaul.fields.field import Field
from farhaul.lists.covers import least_cover
from farhaul.lists.curves import curves
from farhaul.polys.polys import add, times, trimmed, value
from reference import all_fields, fresh, raises, random_poly
from test_bivariate import slow_along, some_bivariates


def with_roots(field, roots, factor):
    """The product of y + p for all roots p, and of a bivariate polynomial."""
    rows = factor
    for p in roots:
        more = [[]] + rows
        for j, row in enumerate(rows):
            more[j] = add(field, more[j], times(field, row, p))
        rows = more
    return rows


def slow_curves(field, rows, size):
    """All roots with at most so many coefficients, by trying all polynomials."""
    found = []
    for coefficients in itertools.product(range(field.size()), repeat=size):
        p = trimmed(list(coefficients))
        if slow_along(field, rows, p) == []:
            found.append(p)
    return sorted(found)


class TestCurves(unittest.TestCase):
    def assert_curves(self, field, rows, size):
        found = fresh(self, curves, field, rows, size)
        self.assertEqual(found, slow_curves(field, rows, size))
        return found

    def test_against_all_polynomials(self):
        told = 0
        for field, most in ((Field(2, 7), 4), (Field(3, 11), 2), (Field(4, 19), 1), (Field(4, 31), 2)):
            for rows in [rows for rows in some_bivariates(field, 1019, many=8) if rows]:
                for size in range(most + 1):
                    told += len(self.assert_curves(field, rows, size))
        self.assertLess(10, told)

    def test_products(self):
        rng = random.Random(1020)
        for field, most in ((Field(2, 7), 4), (Field(3, 13), 2)):
            for _ in range(12):
                roots = [random_poly(field, rng.randrange(most + 1), rng) for _ in range(rng.randrange(1, 5))]
                # Many roots that begin alike, too, and roots that are too long.
                if rng.randrange(2):
                    roots += [add(field, roots[0], [0] * (most - 1) + [1]), roots[0] + [0, 1]]
                factor = rng.choice(([[1]], [[0, 0, 1]], [[], [0, 1]], [[0, 1], [0, 0, 3]], [[1], [], [0, 1]]))
                rows = with_roots(field, roots, factor)
                for size in range(most + 1):
                    found = self.assert_curves(field, rows, size)
                    self.assertEqual([p for p in sorted(roots) if len(p) <= size and p not in found], [])

    def test_great_fields(self):
        rng = random.Random(1021)
        for field in all_fields():
            roots = sorted({tuple(random_poly(field, size, rng)) for size in (0, 1, 2, 5, 9, 30)})
            rows = with_roots(field, [list(p) for p in roots], [[0, 1]])
            for size in (0, 1, 2, 4, 5, 29, 30, 40):
                self.assertEqual(curves(field, rows, size), [list(p) for p in roots if len(p) <= size])

    def test_multiple_roots(self):
        field = Field(4, 19)
        p = [3, 0, 7]
        for many in range(1, 8):
            self.assertEqual(curves(field, with_roots(field, [p] * many, [[1]]), 3), [p])
            self.assertEqual(curves(field, with_roots(field, [[]] * many + [p], [[0, 0, 5]]), 3), [[], p])
            self.assertEqual(curves(field, with_roots(field, [p] * many, [[1]]), 2), [])

    def test_size_0(self):
        field = Field(3, 11)
        for rows, found in (
            ([[1]], []), ([[], [1]], [[]]), ([[0, 1], [1]], []), ([[], [], [3, 1]], [[]]), ([[5], [1]], []),
        ):
            self.assertEqual(fresh(self, curves, field, rows, 0), found)
        # The polynomial 0 is a root for each size.
        for size in range(5):
            self.assertEqual(curves(field, [[], [0, 1]], size), [[]])

    def test_order_of_lists(self):
        field = Field(2, 7)
        roots = [[], [0, 0, 1], [0, 1], [0, 2, 1], [1], [1, 1], [2], [3, 0, 1]]
        self.assertEqual(curves(field, with_roots(field, roots[::-1], [[1]]), 3), roots)

    def test_all_polynomials_of_one_coefficient(self):
        for field in all_fields()[:6]:
            size = field.size()
            # y ** size + y has the value 0 at each element.
            rows = [[], [1]] + [[]] * (size - 2) + [[1]]
            self.assertEqual(curves(field, rows, 1), [[]] + [[e] for e in range(1, size)])
            self.assertEqual(curves(field, rows, 7), [[]] + [[e] for e in range(1, size)])

    def test_long_roots(self):
        rng = random.Random(1022)
        field = Field(5, 37)
        roots = sorted(random_poly(field, size, rng) for size in (300, 300, 299))
        rows = with_roots(field, roots, [[1]])
        self.assertEqual(curves(field, rows, 300), roots)
        self.assertEqual(curves(field, rows, 299), [p for p in roots if len(p) < 300])

    def test_many_roots(self):
        rng = random.Random(1062)
        for field, many, size in ((Field(8, 285), 40, 4), (Field(2, 7), 40, 9), (Field(4, 19), 30, 3)):
            roots = sorted({tuple(random_poly(field, rng.randrange(size + 1), rng)) for _ in range(many)})
            rows = with_roots(field, [list(p) for p in roots], [[1]])
            self.assertEqual(curves(field, rows, size), [list(p) for p in roots])
        rows = [[], [1]] + [[]] * 254 + [[1]]
        self.assertEqual(curves(Field(8, 285), rows, 9), [[]] + [[e] for e in range(1, 256)])

    def test_no_root_without_y(self):
        field = Field(4, 19)
        for rows in ([[1]], [[0, 1]], [[0, 0, 0, 7, 1]]):
            for size in (0, 1, 3):
                self.assertEqual(curves(field, rows, size), [])

    def test_of_covers(self):
        field = Field(3, 11)
        p = [5, 1]
        vertices = [(e, value(field, p, e), 1) for e in range(8)]
        self.assertIn(p, self.assert_curves(field, least_cover(field, 1, vertices), 2))

    def test_0(self):
        for field in all_fields():
            for size in (0, 1, 300):
                raises(self, "NoDivisor", 0, curves, field, [], size)
