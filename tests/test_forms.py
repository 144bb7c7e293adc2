import itertools
import random
import unittest

from farhaul.fields.field import Field
from farhaul.lists.forms import form_of, multipliers, weight_of, word_of
from farhaul.rootcodes.code import RootCode
from reference import all_fields, fresh, poly_value, raises, random_poly, small_fields


def some_codes(field, rng, many=4):
    """Codes of a field, the shortest and the longest ones among them."""
    q = field.size()
    found = [RootCode(field, 2, 0, 1), RootCode(field, q - 1, q - 2, 1), RootCode(field, q - 1, 0, q - 2)]
    for _ in range(many):
        n = rng.randrange(2, min(q, 40))
        found.append(RootCode(field, n, rng.randrange(q - 1), rng.randrange(1, n)))
    return found


def slow_multiplier(code, place):
    """The multiplier of a place, by the words of point 1001."""
    field = code.field
    points = [field.power(field.root(), i) for i in range(code.n)]
    product = field.power(points[place], code.first)
    for i in range(code.n):
        if i != place:
            product = field.times(product, points[place] ^ points[i])
    return next(e for e in range(field.size()) if field.times(e, product) == 1)


class TestForms(unittest.TestCase):
    def test_multipliers(self):
        rng = random.Random(1023)
        for field in all_fields():
            for code in some_codes(field, rng):
                found = fresh(self, multipliers, code)
                places = rng.sample(range(code.n), min(code.n, 4))
                self.assertEqual([found[k] for k in places], [slow_multiplier(code, k) for k in places])
                self.assertEqual(len(found), code.n)

    def test_each_first_power(self):
        rng = random.Random(1024)
        for field in small_fields():
            for first in range(field.size() - 1):
                for n in (2, field.size() - 1, field.size() // 2 + 1):
                    code = RootCode(field, n, first, rng.randrange(1, n))
                    self.assertEqual(multipliers(code), [slow_multiplier(code, k) for k in range(n)])
                    form = random_poly(field, n - code.checks, rng)
                    self.assertTrue(code.is_word(word_of(code, form)))

    def test_words_of_forms(self):
        rng = random.Random(1025)
        for field in all_fields():
            for code in some_codes(field, rng):
                factors = multipliers(code)
                for size in {0, 1, code.n - code.checks, (code.n - code.checks) // 2}:
                    form = random_poly(field, size, rng)
                    word = fresh(self, word_of, code, form)
                    self.assertTrue(code.is_word(word))
                    self.assertEqual(fresh(self, form_of, code, word), form)
                    for place in rng.sample(range(code.n), min(code.n, 4)):
                        point = field.power(field.root(), place)
                        self.assertEqual(word[place], field.times(factors[place], poly_value(field, form, point)))

    def test_forms_of_words(self):
        rng = random.Random(1026)
        for field in all_fields():
            for code in some_codes(field, rng):
                word = code.codeword([rng.randrange(field.size()) for _ in range(code.n - code.checks)])
                form = fresh(self, form_of, code, word)
                self.assertTrue(form == [] or form[-1] != 0)
                self.assertLessEqual(len(form), code.n - code.checks)
                self.assertEqual(word_of(code, form), word)

    def test_each_number_of_coefficients(self):
        field = Field(4, 25)
        rng = random.Random(1027)
        for n in (2, 9, 15):
            for k in range(1, n):
                code = RootCode(field, n, rng.randrange(15), n - k)
                words = []
                for size in range(k + 1):
                    form = random_poly(field, size, rng)
                    words.append(word_of(code, form))
                    self.assertTrue(code.is_word(words[-1]))
                    self.assertEqual(form_of(code, words[-1]), form)
                raises(self, "WrongSize", 0, word_of, code, random_poly(field, k + 1, rng))
                raises(self, "WrongSize", 0, word_of, code, random_poly(field, n + 5, rng))

    def test_each_word_has_one_form(self):
        field = Field(2, 7)
        for n, checks, first in ((3, 1, 0), (3, 2, 1), (2, 1, 2), (3, 1, 2)):
            code = RootCode(field, n, first, checks)
            forms = [form_of(code, list(word)) for word in itertools.product(range(4), repeat=n) if code.is_word(word)]
            self.assertEqual(len(forms), 4 ** (n - checks))
            self.assertEqual(len({tuple(form) for form in forms}), len(forms))

    def test_0(self):
        for field in all_fields():
            code = RootCode(field, field.size() - 1, 1, 1)
            self.assertEqual(word_of(code, []), [0] * code.n)
            self.assertEqual(form_of(code, [0] * code.n), [])

    def test_weight(self):
        field = Field(4, 19)
        for n in range(2, 16):
            for checks in range(1, n):
                self.assertEqual(weight_of(RootCode(field, n, 3, checks)), max(n - checks - 1, 1))
        self.assertEqual([weight_of(RootCode(field, 9, 0, checks)) for checks in (8, 7, 6, 5, 1)], [1, 1, 2, 3, 7])
