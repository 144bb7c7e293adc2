import random
import unittest
from math import comb

from farhaul.fields.field import Field
from farhaul.lists.bivariate import (
    along, is_bivariate, leading, moved, multiplicity, value_at, weighted_degree,
)
from reference import all_fields, fresh, poly_value, random_poly, small_fields


def random_bivariate(field, rng, rows=5, size=6):
    """A bivariate polynomial with so many rows, some of them empty, the last one not."""
    if rows == 0:
        return []
    found = [random_poly(field, rng.choice((0, rng.randrange(size + 1))), rng) for _ in range(rows - 1)]
    return found + [random_poly(field, rng.randrange(1, size + 1), rng)]


def some_bivariates(field, seed, many=8):
    rng = random.Random(seed)
    found = [[], [[1]], [[], [1]], [[0, 1]], [[0, 1], [1]], [[], [], [0, 0, 1]]]
    return found + [random_bivariate(field, rng, rng.randrange(6)) for _ in range(many)]


def terms_of(rows):
    """The exponents and coefficients of all terms."""
    return [(i, j, c) for j, row in enumerate(rows) for i, c in enumerate(row) if c]


def rows_of(terms):
    """The bivariate polynomial with these coefficients, as a dict."""
    terms = {pair: c for pair, c in terms.items() if c}
    rows = [[0] * (1 + max((i for i, k in terms if k == j), default=-1)) for j in
            range(1 + max((j for _, j in terms), default=-1))]
    for (i, j), c in terms.items():
        rows[j][i] = c
    return rows


def slow_moved(field, rows, e, f):
    """q(x + e, y + f), term by term, by the binomial theorem."""
    total = {}
    for i, j, c in terms_of(rows):
        for a in range(i + 1):
            for b in range(j + 1):
                if comb(i, a) * comb(j, b) % 2:
                    part = field.times(field.power(e, i - a), field.power(f, j - b))
                    total[a, b] = total.get((a, b), 0) ^ field.times(c, part)
    return rows_of(total)


def slow_multiplicity(field, rows, e, f):
    return min((i + j for i, j, _ in terms_of(slow_moved(field, rows, e, f))), default=None)


def slow_along(field, rows, p):
    """q(x, p(x)), power by power."""
    total = {}
    power = {0: 1}
    for row in rows:
        for i, c in enumerate(row):
            for k, d in power.items():
                total[i + k] = total.get(i + k, 0) ^ field.times(c, d)
        product = {}
        for k, d in power.items():
            for i, c in enumerate(p):
                product[i + k] = product.get(i + k, 0) ^ field.times(c, d)
        power = product
    return [total.get(k, 0) for k in range(1 + max((k for k, c in total.items() if c), default=-1))]


class TestForm(unittest.TestCase):
    def test_forms(self):
        field = Field(2, 7)
        good = [[], [[1]], [[], [1]], [[], [], [3]], [[0, 1]], [[1, 0, 2], [], [0, 0, 3], [1]]]
        bad = [[[]], [[1], []], [[], []], [[0]], [[1, 0]], [[1], [0]], [[0], [1]], [[2, 0], [1]], [[1], [], [0, 0]],
               [[4]], [[1, 4, 1]], [[-1]], [[1], [-1, 1]], [[2 ** 40], [1]], [[1], [1, 5]], [[1], [1], [-(2 ** 40), 1]]]
        for rows in good:
            self.assertIs(fresh(self, is_bivariate, field, rows), True)
        for rows in bad:
            self.assertIs(fresh(self, is_bivariate, field, rows), False)

    def test_elements_of_other_fields(self):
        for field in all_fields():
            size = field.size()
            self.assertTrue(is_bivariate(field, [[0, size - 1], [], [size - 1]]))
            for e in (size, size + 1, -1):
                for rows in ([[e]], [[e, 1]], [[1], [1, e, 1]], [[1, e], [1]]):
                    self.assertFalse(is_bivariate(field, rows))

    def test_many_rows(self):
        self.assertTrue(is_bivariate(Field(3, 11), [[1]] * 300))
        self.assertFalse(is_bivariate(Field(3, 11), [[1]] * 300 + [[]]))


class TestDegrees(unittest.TestCase):
    def test_against_all_terms(self):
        for field in small_fields():
            for rows in some_bivariates(field, 1003):
                for weight in (1, 2, 3, 5, 300):
                    order = sorted((i + weight * j, j, i) for i, j, _ in terms_of(rows))
                    degree = fresh(self, weighted_degree, rows, weight)
                    found = fresh(self, leading, rows, weight)
                    if not order:
                        self.assertEqual(degree, -1)
                        self.assertIsNone(found)
                    else:
                        self.assertEqual(degree, order[-1][0])
                        self.assertIs(type(found), tuple)
                        self.assertEqual(found, (order[-1][2], order[-1][1]))

    def test_one_degree_in_several_rows(self):
        # The lower power of y comes first, so the greater one leads.
        self.assertEqual(leading([[0, 0, 1], [0, 1], [1]], 1), (0, 2))
        self.assertEqual(leading([[0, 0, 1], [0, 1], []], 1), (1, 1))
        self.assertEqual(leading([[0, 0, 0, 1], [0, 1], [1]], 1), (3, 0))
        self.assertEqual(leading([[0, 0, 0, 0, 1], [], [1]], 2), (0, 2))
        self.assertEqual(leading([[0, 0, 0, 0, 1], [0, 0, 1]], 2), (2, 1))

    def test_0(self):
        self.assertIsNone(leading([], 1))
        self.assertEqual(weighted_degree([], 300), -1)
        self.assertEqual((leading([[5]], 300), weighted_degree([[5]], 300)), ((0, 0), 0))


class TestValues(unittest.TestCase):
    def test_value_at(self):
        for field in small_fields():
            for rows in some_bivariates(field, 1004, many=3):
                for e in range(field.size()):
                    for f in range(0, field.size(), 3):
                        total = 0
                        for i, j, c in terms_of(rows):
                            total ^= field.times(c, field.times(field.power(e, i), field.power(f, j)))
                        self.assertEqual(value_at(field, rows, e, f), total)

    def test_value_at_leaves_its_arguments(self):
        rows = [[1, 2], [], [3]]
        self.assertEqual(fresh(self, value_at, Field(2, 7), rows, 2, 3), value_at(Field(2, 7), rows, 2, 3))

    def test_along(self):
        rng = random.Random(1005)
        for field in small_fields() + all_fields()[-2:]:
            for rows in some_bivariates(field, 1006):
                for p in [[], [1], [0, 1]] + [random_poly(field, rng.randrange(1, 5), rng) for _ in range(3)]:
                    found = fresh(self, along, field, rows, p)
                    self.assertEqual(found, slow_along(field, rows, p))
                    for e in range(field.size()):
                        self.assertEqual(poly_value(field, found, e), value_at(field, rows, e, poly_value(field, p, e)))

    def test_along_0(self):
        field = Field(3, 11)
        self.assertEqual(along(field, [], [1, 2]), [])
        self.assertEqual(along(field, [[3, 1], [1]], []), [3, 1])
        self.assertEqual(along(field, [[3, 1], [1]], [3, 1]), [])
        self.assertEqual(along(field, [[], [5]], []), [])


class TestMoved(unittest.TestCase):
    def test_against_the_binomial_theorem(self):
        rng = random.Random(1007)
        for field in all_fields():
            for rows in some_bivariates(field, 1008, many=5):
                for e, f in [(0, 0), (1, 0), (0, 1)] + [(rng.randrange(field.size()), rng.randrange(field.size()))] * 2:
                    found = fresh(self, moved, field, rows, e, f)
                    self.assertEqual(found, slow_moved(field, rows, e, f))
                    self.assertTrue(is_bivariate(field, found))
                    self.assertEqual(moved(field, found, e, f), rows)

    def test_values(self):
        field = Field(3, 11)
        for rows in some_bivariates(field, 1009, many=3):
            found = moved(field, rows, 3, 6)
            for e in range(8):
                for f in range(8):
                    self.assertEqual(value_at(field, found, e, f), value_at(field, rows, e ^ 3, f ^ 6))

    def test_greater_sizes(self):
        rng = random.Random(1010)
        field = Field(8, 285)
        rows = random_bivariate(field, rng, rows=300, size=40)
        found = moved(field, rows, 200, 77)
        self.assertEqual(len(found), 300)
        self.assertEqual(moved(field, found, 200, 77), rows)
        for e, f in ((0, 0), (5, 9), (255, 254)):
            self.assertEqual(value_at(field, found, e, f), value_at(field, rows, e ^ 200, f ^ 77))

    def test_multiplicity(self):
        for field in small_fields():
            for rows in some_bivariates(field, 1011, many=4):
                for e in range(0, field.size(), 2):
                    for f in range(0, field.size(), 3):
                        found = fresh(self, multiplicity, field, rows, e, f)
                        self.assertEqual(found, slow_multiplicity(field, rows, e, f))
                        if rows:
                            self.assertIs(found == 0, value_at(field, rows, e, f) != 0)

    def test_known_multiplicities(self):
        field = Field(4, 19)
        self.assertIsNone(multiplicity(field, [], 3, 5))
        self.assertEqual(multiplicity(field, [[7]], 3, 5), 0)
        # (x + 3) ** 2 * (y + 5), and the sum of (x + 3) ** 3 and (y + 5) ** 2.
        square = [5, 0, 1]
        self.assertEqual(multiplicity(field, [[field.times(5, c) for c in square], square], 3, 5), 3)
        self.assertEqual(multiplicity(field, [[field.times(5, c) for c in square], square], 3, 4), 2)
        self.assertEqual(multiplicity(field, [[field.times(5, c) for c in square], square], 2, 5), 1)
        cube = [15, 5, 3, 1]
        self.assertEqual(multiplicity(field, [[cube[0] ^ field.times(5, 5)] + cube[1:], [], [1]], 3, 5), 2)
