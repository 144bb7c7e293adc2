import random
import unittest
from math import comb

from farhaul.fields.field import Field
from farhaul.lists.bivariate import is_bivariate, leading, moved, weighted_degree
from farhaul.lists.covers import degree_bound, is_cover, least_cover, terms_up_to
from farhaul.polys.polys import value
from reference import all_fields, fresh, raises, small_fields
from test_bivariate import rows_of, slow_along, slow_multiplicity, some_bivariates


def cost_of(vertices):
    return sum(s * (s + 1) // 2 for _, _, s in vertices)


def some_vertices(field, rng, most, many=16):
    """Different pairs of elements with numbers from 1 to 16, as many as the cost allows."""
    pairs = [(e, f) for e in range(field.size()) for f in range(field.size())]
    found = []
    for e, f in rng.sample(pairs, min(many, len(pairs))):
        s = min(16, rng.choice((1, 1, 1, 2, 2, 3, 4, 6)))
        if cost_of(found) + s * (s + 1) // 2 <= most:
            found.append((e, f, s))
    return found


def parts_of(field, vertices, i, j):
    """What the term adds to each coefficient that has to be 0, vertex by vertex."""
    column = []
    for e, f, s in vertices:
        for a in range(s):
            for b in range(s - a):
                part = 0
                if comb(i, a) * comb(j, b) % 2:
                    part = field.times(field.power(e, i - a), field.power(f, j - b))
                column.append(part)
    return column


def first_solution(field, weight, vertices):
    """The coefficients of the monic cover that begins first in the order, by linear equations."""
    known = []
    degree = 0
    while True:
        for j in range(degree // weight + 1):
            term = (degree - weight * j, j)
            column, made = parts_of(field, vertices, *term), {term: 1}
            for pivot, other, other_made in known:
                scale = column[pivot]
                if scale:
                    column = [c ^ field.times(scale, d) for c, d in zip(column, other)]
                    for pair, c in other_made.items():
                        made[pair] = made.get(pair, 0) ^ field.times(scale, c)
            if not any(column):
                return rows_of(made)
            pivot = next(k for k, c in enumerate(column) if c)
            scale = field.inverse(column[pivot])
            known.append((pivot, [field.times(scale, c) for c in column],
                          {pair: field.times(scale, c) for pair, c in made.items()}))
        degree += 1


def covers_by_words(field, rows, vertices):
    return rows != [] and all(slow_multiplicity(field, rows, e, f) >= s for e, f, s in vertices)


class TestCounting(unittest.TestCase):
    def test_terms_up_to(self):
        for weight in (1, 2, 3, 7, 30, 300):
            for degree in list(range(-3, 40)) + [299, 300, 301]:
                many = sum(1 for j in range(degree + 2) for i in range(degree + 2) if i + weight * j <= degree)
                self.assertEqual(terms_up_to(weight, degree), many)

    def test_terms_below_0(self):
        for weight in (1, 2, 300):
            for degree in (-1, -2, -weight, -(2 ** 31), -(2 ** 32) + 1, -(2 ** 32)):
                self.assertEqual(terms_up_to(weight, degree), 0)

    def test_many_terms(self):
        self.assertEqual(terms_up_to(1, 2 ** 32 - 1), 2 ** 32 * (2 ** 32 + 1) // 2)
        self.assertEqual(terms_up_to(300, 10 ** 6), sum(10 ** 6 - 300 * j + 1 for j in range(10 ** 6 // 300 + 1)))

    def test_degree_bound(self):
        for weight in (1, 2, 3, 10, 299, 300):
            degree = 0
            for cost in range(700):
                while terms_up_to(weight, degree) <= cost:
                    degree += 1
                self.assertEqual(degree_bound(weight, cost), degree)
            for cost in (10 ** 6, 2 ** 32 - 1, 255 * 10 ** 10 // 2):
                bound = degree_bound(weight, cost)
                self.assertLess(cost, terms_up_to(weight, bound))
                self.assertLessEqual(terms_up_to(weight, bound - 1), cost)


class TestLeastCover(unittest.TestCase):
    def assert_least(self, field, weight, vertices):
        rows = fresh(self, least_cover, field, weight, vertices)
        self.assertTrue(is_bivariate(field, rows))
        i, j = leading(rows, weight)
        self.assertEqual(rows[j][i], 1)
        self.assertLessEqual(weighted_degree(rows, weight), degree_bound(weight, cost_of(vertices)))
        self.assertTrue(covers_by_words(field, rows, vertices))
        self.assertEqual(rows, first_solution(field, weight, vertices))

    def test_against_linear_equations(self):
        rng = random.Random(1012)
        for field in small_fields() + [Field(6, 67), Field(8, 285)]:
            for weight in (1, 2, 3, 6, 300):
                for most in (1, 3, 12, 40):
                    self.assert_least(field, weight, some_vertices(field, rng, most))

    def test_each_multiplicity(self):
        rng = random.Random(1013)
        field = Field(4, 25)
        for s in range(1, 17):
            for weight in (1, 5):
                vertices = [(rng.randrange(16), rng.randrange(16), s)]
                self.assert_least(field, weight, vertices)
                e, f, _ = vertices[0]
                self.assertEqual(slow_multiplicity(field, least_cover(field, weight, vertices), e, f), s)

    def test_vertices_over_one_element(self):
        field = Field(3, 11)
        self.assertEqual(least_cover(field, 2, [(3, f, 1) for f in range(8)]), [[3, 1]])
        for weight in (1, 3):
            self.assert_least(field, weight, [(3, f, 2) for f in range(8)])
            self.assert_least(field, weight, [(e, 5, 1 + e % 3) for e in range(8)])
            self.assert_least(field, weight, [(0, 0, 3), (0, 1, 2), (1, 0, 2)])

    def test_no_vertices(self):
        for field in all_fields():
            for weight in (1, 7, 300):
                self.assertEqual(fresh(self, least_cover, field, weight, []), [[1]])

    def test_one_vertex(self):
        field = Field(4, 19)
        self.assertEqual(least_cover(field, 1, [(3, 5, 1)]), [[3, 1]])
        self.assertEqual(least_cover(field, 1, [(3, 5, 2)]), [[5, 0, 1]])
        self.assertEqual(least_cover(field, 9, [(3, 5, 1), (4, 6, 1)])[0][-1], 1)

    def test_greatest_cost(self):
        rng = random.Random(1014)
        field = Field(8, 285)
        pairs = [(e, f) for e in range(256) for f in range(256)]
        for weight, s, many in ((1, 1, 600), (40, 2, 200), (300, 1, 600), (3, 16, 4)):
            vertices = [(e, f, s) for e, f in rng.sample(pairs, many)]
            rows = least_cover(field, weight, vertices)
            i, j = leading(rows, weight)
            self.assertEqual(rows[j][i], 1)
            self.assertLessEqual(weighted_degree(rows, weight), degree_bound(weight, cost_of(vertices)))
            self.assertTrue(is_cover(field, rows, vertices))

    def test_all_pairs_of_a_field(self):
        field = Field(3, 13)
        for weight in (1, 2):
            self.assert_least(field, weight, [(e, f, 1) for e in range(8) for f in range(8)])

    def test_points_that_are_the_same(self):
        field = Field(3, 11)
        for vertices, k in (
            ([(1, 2, 1), (1, 2, 1)], 1), ([(1, 2, 1), (1, 3, 1), (2, 2, 1), (1, 3, 4)], 3),
            ([(0, 0, 2), (1, 1, 1), (0, 0, 1), (1, 1, 1)], 2), ([(5, 5, 1)] * 3, 1),
        ):
            raises(self, "SamePoint", k, least_cover, field, 3, vertices)

    def test_roots_of_covers(self):
        # Point 1007: where a polynomial goes through enough vertices, it is a root of each cover.
        rng = random.Random(1015)
        for field in small_fields()[2:]:
            for weight in (1, 2, 3):
                for _ in range(5):
                    p = [rng.randrange(field.size()) for _ in range(weight)] + [rng.randrange(1, field.size())]
                    vertices = {(e, value(field, p, e)): rng.randrange(1, 4) for e in range(field.size())}
                    for _ in range(3):
                        vertices[rng.randrange(field.size()), rng.randrange(field.size())] = rng.randrange(1, 3)
                    triples = [(e, f, s) for (e, f), s in vertices.items()]
                    rows = least_cover(field, weight, triples)
                    reached = sum(s for e, f, s in triples if value(field, p, e) == f)
                    if reached > weighted_degree(rows, weight):
                        self.assertEqual(slow_along(field, rows, p), [])


class TestIsCover(unittest.TestCase):
    def test_by_the_words(self):
        rng = random.Random(1016)
        told = []
        for field in small_fields():
            for rows in some_bivariates(field, 1017, many=6):
                for _ in range(4):
                    vertices = some_vertices(field, rng, 6, many=rng.randrange(4))
                    e, f = rng.randrange(field.size()), rng.randrange(field.size())
                    s = slow_multiplicity(field, rows, e, f)
                    lists = [vertices, [(e, f, s + 1)] if s is not None else [(e, f, 1)], []]
                    if s:
                        lists.append([(e, f, s)])
                    for triples in lists:
                        found = fresh(self, is_cover, field, rows, triples)
                        self.assertIs(found, covers_by_words(field, rows, triples))
                        told.append(found)
        self.assertIn(True, told)
        self.assertIn(False, told)

    def test_0_is_no_cover(self):
        for vertices in ([], [(0, 0, 1)], [(1, 1, 2), (2, 1, 1)]):
            self.assertIs(is_cover(Field(3, 11), [], vertices), False)

    def test_no_vertices(self):
        for rows in ([[1]], [[], [3]], [[0, 1], [2]]):
            self.assertIs(is_cover(Field(3, 11), rows, []), True)

    def test_one_vertex_too_many(self):
        rng = random.Random(1018)
        field = Field(4, 19)
        for weight in (1, 3):
            vertices = some_vertices(field, rng, 30)
            rows = least_cover(field, weight, vertices)
            self.assertTrue(is_cover(field, rows, vertices))
            self.assertTrue(is_cover(field, rows, vertices[1:]))
            for k, (e, f, s) in enumerate(vertices):
                more = slow_multiplicity(field, rows, e, f) + 1
                self.assertFalse(is_cover(field, rows, vertices[:k] + [(e, f, more)] + vertices[k + 1:]))

    def test_moved_covers(self):
        field = Field(4, 31)
        vertices = [(1, 2, 2), (3, 4, 1), (9, 9, 3)]
        rows = moved(field, least_cover(field, 2, vertices), 5, 6)
        self.assertTrue(is_cover(field, rows, [(e ^ 5, f ^ 6, s) for e, f, s in vertices]))
        self.assertFalse(is_cover(field, rows, vertices))
