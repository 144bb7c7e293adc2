import itertools
import random
import unittest

from farhaul.fields.field import Field
from farhaul.rootcodes.code import RootCode
from reference import all_fields, fresh, poly_value, raises, small_fields


def words_of(code):
    """All words of a small code, by the definition."""
    q = code.field.size()
    everything = itertools.product(range(q), repeat=code.n)
    return [list(symbols) for symbols in everything if is_word_of(code, symbols)]


def is_word_of(code, symbols):
    root = code.field.root()
    places = range(code.first, code.first + code.checks)
    return all(poly_value(code.field, symbols, code.field.power(root, k)) == 0 for k in places)


def small_codes(field, sizes):
    for n in sizes:
        for first in range(field.size() - 1):
            for checks in range(1, n):
                yield RootCode(field, n, first, checks)


class TestRootCode(unittest.TestCase):
    def test_out_of_range(self):
        for field in all_fields():
            q = field.size()
            for n in (-(2 ** 40), -1, 0, 1, q, q + 1, 2 ** 40):
                for first, checks in ((0, 1), (-1, 0), (q, q)):
                    raises(self, "OutOfRange", 0, RootCode, field, n, first, checks)
            for first in (-(2 ** 40), -1, q - 1, q, 2 ** 40):
                for checks in (0, 1, q):
                    raises(self, "OutOfRange", 1, RootCode, field, 3, first, checks)
            for n in (2, q - 1):
                for checks in (-(2 ** 40), -1, 0, n, n + 1, 2 ** 40):
                    for first in (0, q - 2):
                        raises(self, "OutOfRange", 2, RootCode, field, n, first, checks)

    def test_ends_of_the_ranges(self):
        for field in all_fields():
            q = field.size()
            for n in (2, q - 1):
                for first in (0, q - 2):
                    for checks in (1, n - 1):
                        code = RootCode(field, n, first, checks)
                        self.assertIs(code.field, field)
                        self.assertEqual((code.n, code.first, code.checks), (n, first, checks))

    def test_roots(self):
        for field in small_fields():
            for code in small_codes(field, (3,)):
                expected = [field.power(field.root(), code.first + j) for j in range(code.checks)]
                self.assertEqual(fresh(self, code.roots), expected)

    def test_all_lists_of_small_codes(self):
        for code in small_codes(Field(2, 7), (2, 3)):
            for symbols in itertools.product(range(4), repeat=code.n):
                self.assertIs(fresh(self, code.is_word, list(symbols)), is_word_of(code, symbols))

    def test_codewords_of_small_codes(self):
        for field, sizes in ((Field(2, 7), (2, 3)), (Field(3, 11), (4,)), (Field(3, 13), (3,))):
            for code in small_codes(field, sizes):
                words = {tuple(word[code.checks:]): word for word in words_of(code)}
                self.assertEqual(len(words), field.size() ** (code.n - code.checks))
                for message in list(words)[::5]:
                    word = fresh(self, code.codeword, list(message))
                    self.assertEqual(word, words[message])
                    self.assertEqual(fresh(self, code.message, word), list(message))

    def test_greater_codes(self):
        for field in all_fields():
            rng = random.Random(field.modulus())
            q = field.size()
            for _ in range(3):
                n = rng.randrange(2, min(q, 60))
                code = RootCode(field, n, rng.randrange(q - 1), rng.randrange(1, n))
                message = [rng.randrange(q) for _ in range(n - code.checks)]
                word = fresh(self, code.codeword, message)
                self.assertEqual(len(word), n)
                self.assertEqual(word[code.checks:], message)
                self.assertTrue(is_word_of(code, word))
                self.assertIs(code.is_word(word), True)
                self.assertEqual(fresh(self, code.message, word), message)
                for place in range(n):
                    wrong = list(word)
                    wrong[place] ^= rng.randrange(1, q)
                    self.assertIs(fresh(self, code.is_word, wrong), False)
                for other in (word[:-1], word + [0], [], word + word):
                    self.assertIs(fresh(self, code.is_word, other), False)

    def test_zeros_of_another_length(self):
        code = RootCode(Field(3, 11), 6, 2, 3)
        for size in range(10):
            self.assertIs(code.is_word([0] * size), size == 6)

    def test_wrong_size_of_messages(self):
        code = RootCode(Field(3, 11), 6, 2, 3)
        for size in (0, 1, 2, 4, 5, 6, 100):
            raises(self, "WrongSize", 0, code.codeword, [1] * size)
        self.assertEqual(code.codeword([0, 0, 0]), [0] * 6)

    def test_word_on_all_sets_of_small_codes(self):
        for field, sizes in ((Field(2, 7), (2, 3)), (Field(3, 11), (2, 5, 7)), (Field(3, 13), (6,))):
            for code in small_codes(field, sizes):
                for places in itertools.combinations(range(code.n), code.checks + 1):
                    word = code.word_on(list(places))
                    self.assertEqual(len(word), code.n)
                    self.assertEqual(word[places[0]], 1)
                    self.assertEqual([k for k in range(code.n) if word[k] != 0], list(places))
                    self.assertTrue(is_word_of(code, word))

    def test_word_on_is_new(self):
        code = RootCode(Field(4, 19), 15, 3, 4)
        self.assertEqual(fresh(self, code.word_on, [0, 3, 4, 7, 14])[0], 1)
        everywhere = RootCode(Field(4, 31), 15, 14, 14).word_on(list(range(15)))
        self.assertTrue(all(everywhere))

    def test_word_on_errors(self):
        code = RootCode(Field(3, 11), 6, 2, 3)
        for places in ([], [0], [0, 1, 2], [0, 1, 2, 3, 4], [-1], [9, 9, 9]):
            raises(self, "WrongSize", 0, code.word_on, places)
        for places, k in (
            ([-1, 1, 2, 3], 0), ([6, 1, 2, 3], 0), ([0, 0, 2, 3], 1), ([1, 0, 2, 9], 1), ([0, 1, 2, 6], 3),
            ([0, 1, 6, 7], 2), ([2, 3, 3, -1], 2), ([0, 1, 5, -1], 3), ([0, 2 ** 40, 1, 2], 1), ([3, 4, 5, 5], 3),
        ):
            raises(self, "WrongPlace", k, code.word_on, places)

    def test_objects_stay_as_they_are(self):
        code = RootCode(Field(3, 11), 6, 2, 3)
        word = code.codeword([1, 2, 3])
        raises(self, "WrongSize", 0, code.codeword, [1])
        raises(self, "WrongPlace", 0, code.word_on, [6, 7, 8, 9])
        self.assertEqual(code.codeword([1, 2, 3]), word)
        self.assertEqual((code.n, code.first, code.checks), (6, 2, 3))
