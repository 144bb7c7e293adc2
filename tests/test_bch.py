import itertools
import random
import unittest

from farhaul.bch.code import BchCode
from farhaul.bch.minimal import conjugates, minimal
from farhaul.fields.binary import degree, is_irreducible, times
from farhaul.fields.field import Field
from farhaul.polys.points import from_roots
from farhaul.rootcodes.code import RootCode
from reference import all_fields, fresh, poly_value, raises, slow_rest, small_fields


def generator_of(field, first, design):
    """The polynomial whose roots are all conjugates of the roots of the code, each once."""
    roots = {}
    for j in range(design - 1):
        for e in conjugates(field, field.power(field.root(), first + j)):
            roots[e] = True
    return sum(e << i for i, e in enumerate(from_roots(field, list(roots))))


def small_bch_codes(field, sizes):
    for n in sizes:
        for first in range(field.size() - 1):
            for design in range(2, n + 1):
                if degree(generator_of(field, first, design)) < n:
                    yield BchCode(field, n, first, design)


class TestMinimal(unittest.TestCase):
    def test_conjugates(self):
        for field in all_fields():
            self.assertEqual(fresh(self, conjugates, field, 0), [0])
            self.assertEqual(fresh(self, conjugates, field, 1), [1])
            for e in range(field.size()):
                found = conjugates(field, e)
                self.assertEqual(found[0], e)
                for k in range(len(found)):
                    self.assertEqual(found[(k + 1) % len(found)], field.times(found[k], found[k]))
                self.assertEqual(len(set(found)), len(found))
        self.assertEqual(fresh(self, conjugates, Field(4, 19), 2), [2, 4, 3, 5])

    def test_minimal(self):
        for field in all_fields():
            self.assertEqual(minimal(field, 0), 2)
            self.assertEqual(minimal(field, 1), 3)
            self.assertEqual(minimal(field, 2), field.modulus())
            for e in range(field.size()):
                p = minimal(field, e)
                self.assertIs(type(p), int)
                self.assertTrue(is_irreducible(p))
                self.assertEqual(degree(p), len(conjugates(field, e)))
                bits = [p >> i & 1 for i in range(degree(p) + 1)]
                self.assertEqual(poly_value(field, bits, e), 0)

    def test_no_lower_degree(self):
        for field in small_fields():
            for e in range(field.size()):
                p = minimal(field, e)
                zeros = [q for q in range(1, 2 * field.size())
                         if poly_value(field, [q >> i & 1 for i in range(degree(q) + 1)], e) == 0]
                self.assertEqual(min(zeros), p)
                self.assertEqual([q for q in zeros if degree(q) <= degree(p)], [p])


class TestBchCode(unittest.TestCase):
    def test_out_of_range(self):
        for field in all_fields():
            q = field.size()
            for n in (-(2 ** 40), -1, 0, 1, q, q + 1, 2 ** 40):
                for first, design in ((0, 2), (-1, 1), (q, q + 9)):
                    raises(self, "OutOfRange", 0, BchCode, field, n, first, design)
            for first in (-(2 ** 40), -1, q - 1, q, 2 ** 40):
                for n in (2, q - 1):
                    for design in (1, 2, n + 1):
                        raises(self, "OutOfRange", 1, BchCode, field, n, first, design)
            for n in (2, q - 1):
                for design in (-(2 ** 40), -1, 0, 1, n + 1, 2 ** 40):
                    for first in (0, q - 2):
                        raises(self, "OutOfRange", 2, BchCode, field, n, first, design)

    def test_too_large_or_a_code(self):
        for field in small_fields():
            q = field.size()
            for n in range(2, q):
                for first in (0, 1, 2, q - 2):
                    for design in range(2, n + 1):
                        generator = generator_of(field, first, design)
                        if degree(generator) >= n:
                            raises(self, "TooLarge", degree(generator), BchCode, field, n, first, design)
                            continue
                        code = BchCode(field, n, first, design)
                        self.assertIs(code.field, field)
                        self.assertEqual((code.n, code.first, code.design), (n, first, design))
                        self.assertEqual(code.generator(), generator)
                        self.assertEqual(code.checks(), degree(generator))

    def test_known_codes(self):
        # Lengths, messages and designs that stand in every list of BCH codes.
        for m, modulus, rows in (
            (4, 19, ((11, 3), (7, 5), (5, 7), (1, 15))),
            (5, 37, ((26, 3), (21, 5), (16, 7), (11, 11), (6, 15))),
            (6, 67, ((57, 3), (51, 5), (45, 7), (39, 9), (36, 11), (30, 13))),
            (8, 285, ((247, 3), (239, 5), (231, 7), (223, 9), (131, 37), (9, 127), (21, 111))),
        ):
            for size, design in rows:
                n = 2 ** m - 1
                self.assertEqual(BchCode(Field(m, modulus), n, 1, design).checks(), n - size)
        self.assertEqual(BchCode(Field(4, 19), 15, 1, 5).generator(), 0b111010001)
        self.assertEqual(BchCode(Field(4, 19), 15, 0, 2).generator(), 3)

    def test_ends_of_the_ranges(self):
        for field in all_fields():
            n = field.size() - 1
            # All sums of n elements that are all 1 or all 0 are left.
            self.assertEqual(BchCode(field, n, 1, n).checks(), n - 1)
            raises(self, "TooLarge", n, BchCode, field, n, 0, n)
            self.assertEqual(BchCode(field, 2, 0, 2).generator(), 3)
            self.assertEqual(BchCode(field, n, n - 1, 2).checks(), len(conjugates(field, field.inverse(field.root()))))

    def test_words_of_small_codes(self):
        for field in (Field(2, 7), Field(3, 11), Field(3, 13)):
            for code in small_bch_codes(field, range(2, field.size())):
                like = RootCode(field, code.n, code.first, code.design - 1)
                words = {}
                for bits in itertools.product((0, 1), repeat=code.n):
                    p = sum(bit << i for i, bit in enumerate(bits))
                    is_word = slow_rest(p, code.generator()) == 0
                    self.assertIs(code.is_word(list(bits)), is_word)
                    self.assertIs(like.is_word(list(bits)), is_word)
                    if is_word:
                        words[bits[code.checks():]] = list(bits)
                self.assertEqual(len(words), 2 ** (code.n - code.checks()))
                for message, word in words.items():
                    self.assertEqual(code.codeword(list(message)), word)
                    self.assertEqual(code.message(word), list(message))

    def test_greater_codes(self):
        for field in all_fields():
            rng = random.Random(field.modulus())
            for _ in range(8):
                n = rng.randrange(2, field.size())
                first, design = rng.randrange(field.size() - 1), rng.randrange(2, min(n, 20) + 1)
                if degree(generator_of(field, first, design)) >= n:
                    continue
                code = BchCode(field, n, first, design)
                message = [rng.randrange(2) for _ in range(n - code.checks())]
                word = fresh(self, code.codeword, message)
                self.assertEqual(len(word), n)
                self.assertTrue(all(bit in (0, 1) for bit in word))
                self.assertEqual(fresh(self, code.message, word), message)
                self.assertEqual(word[code.checks():], message)
                self.assertIs(fresh(self, code.is_word, word), True)
                self.assertTrue(RootCode(field, n, first, design - 1).is_word(word))
                for place in range(n):
                    self.assertIs(code.is_word(word[:place] + [1 - word[place]] + word[place + 1:]), False)

    def test_generator_is_a_product_of_different_ones(self):
        for field in small_fields():
            for code in small_bch_codes(field, (field.size() - 1,)):
                factors = {}
                for j in range(code.design - 1):
                    factors[minimal(field, field.power(field.root(), code.first + j))] = True
                product = 1
                for factor in factors:
                    product = times(product, factor)
                self.assertEqual(code.generator(), product)

    def test_lists_of_another_length(self):
        code = BchCode(Field(4, 19), 13, 1, 5)
        word = code.codeword([1, 0, 1, 1, 0])
        for other in ([], word[:-1], word + [0], [0] + word, word[1:], word + word, [0] * 12, [0] * 14, [0] * 15):
            self.assertIs(fresh(self, code.is_word, other), False)
        self.assertIs(code.is_word([0] * 13), True)

    def test_wrong_size_of_messages(self):
        code = BchCode(Field(4, 19), 13, 1, 5)
        for size in (0, 1, 4, 6, 8, 13, 100):
            raises(self, "WrongSize", 0, code.codeword, [0] * size)
        self.assertEqual(code.codeword([0] * 5), [0] * 13)
