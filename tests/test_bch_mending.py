import itertools
import random
import unittest

from farhaul.bch.code import BchCode
from farhaul.bch.mending import check_word, mend
from farhaul.fields.binary import degree
from farhaul.fields.field import Field
from reference import all_fields, fresh, raises, subsets
from test_bch import generator_of, small_bch_codes


def words_of(code):
    messages = itertools.product((0, 1), repeat=code.n - code.checks())
    return [code.codeword(list(message)) for message in messages]


def differing(received, wiped, word):
    return [k for k in range(len(word)) if k not in wiped and word[k] != received[k]]


def near_words(code, words, received, wiped):
    return [word for word in words if 2 * len(differing(received, wiped, word)) + len(wiped) < code.design]


def case_at(code, rng, wrong, wiped):
    """A word, a received row with so many wrong and wiped places, and the wiped places."""
    word = code.codeword([rng.randrange(2) for _ in range(code.n - code.checks())])
    places = rng.sample(range(code.n), wrong + wiped)
    received = list(word)
    for place in places[:wrong]:
        received[place] = 1 - received[place]
    for place in places[wrong:]:
        received[place] = rng.randrange(2)
    return word, received, sorted(places[wrong:])


class TestMend(unittest.TestCase):
    def assert_mended(self, code, words, received, wiped):
        near = near_words(code, words, received, wiped)
        found = mend(code, received, wiped)
        if near:
            self.assertEqual(len(near), 1)
            self.assertIs(type(found), tuple)
            self.assertEqual(found, (near[0], differing(received, wiped, near[0])))
        else:
            self.assertIsNone(found)
        for word in words:
            self.assertIs(check_word(code, received, wiped, word), word in near)

    def test_all_rows_of_small_codes(self):
        for field in (Field(2, 7), Field(3, 11)):
            for code in small_bch_codes(field, range(2, min(6, field.size()))):
                words = words_of(code)
                for received in itertools.product((0, 1), repeat=code.n):
                    for wiped in subsets(range(code.n)):
                        self.assert_mended(code, words, list(received), wiped)

    def test_codes_of_seven_bits(self):
        rng = random.Random(1)
        for field in (Field(3, 11), Field(3, 13)):
            for code in small_bch_codes(field, (6, 7)):
                words = words_of(code)
                for wiped in subsets(range(code.n)):
                    received = [rng.randrange(2) for _ in range(code.n)]
                    self.assert_mended(code, words, received, wiped)
                    near = list(rng.choice(words))
                    near[rng.randrange(code.n)] ^= 1
                    self.assert_mended(code, words, near, wiped)

    def test_codes_of_fifteen_bits(self):
        rng = random.Random(2)
        for modulus in (19, 25, 31):
            for n, first, design in ((15, 1, 5), (15, 1, 7), (15, 0, 6), (13, 1, 5), (15, 14, 4), (15, 1, 15), (9, 0, 2)):
                field = Field(4, modulus)
                if degree(generator_of(field, first, design)) >= n:
                    continue
                code = BchCode(field, n, first, design)
                words = words_of(code)
                for _ in range(40):
                    received = [rng.randrange(2) for _ in range(n)]
                    wiped = sorted(rng.sample(range(n), rng.randrange(design + 1 if design < n else n)))
                    self.assert_mended(code, words, received, wiped)
                    self.assert_mended(code, words, received, [])

    def test_greater_codes_at_the_bound(self):
        rng = random.Random(3)
        for field in all_fields():
            for _ in range(10):
                n = rng.randrange(2, min(field.size(), 128))
                first, design = rng.choice((0, 1, rng.randrange(field.size() - 1))), rng.randrange(2, min(n, 16) + 1)
                if degree(generator_of(field, first, design)) >= n:
                    continue
                code = BchCode(field, n, first, design)
                for wiped_many in range(design):
                    for total in (design - 1, design - 2):
                        wrong = (total - wiped_many) // 2
                        if wrong >= 0:
                            word, received, wiped = case_at(code, rng, wrong, wiped_many)
                            found = mend(code, received, wiped)
                            self.assertEqual(found, (word, differing(received, wiped, word)))
                            self.assertIs(check_word(code, received, wiped, word), True)

    def test_greater_codes_beyond_the_bound(self):
        # With as many as the design no other word is near: it would be too near to the first one.
        rng = random.Random(4)
        for field in all_fields():
            for _ in range(10):
                n = rng.randrange(2, min(field.size(), 128))
                first, design = rng.choice((0, 1, rng.randrange(field.size() - 1))), rng.randrange(2, min(n, 16) + 1)
                if degree(generator_of(field, first, design)) >= n:
                    continue
                code = BchCode(field, n, first, design)
                for wrong in range(design // 2 + 1):
                    word, received, wiped = case_at(code, rng, wrong, design - 2 * wrong)
                    self.assertIsNone(mend(code, received, wiped))
                    self.assertIs(check_word(code, received, wiped, word), False)

    def test_longest_code(self):
        rng = random.Random(5)
        code = BchCode(Field(8, 285), 255, 1, 37)
        for wrong, wiped_many in ((18, 0), (10, 16), (0, 36)):
            word, received, wiped = case_at(code, rng, wrong, wiped_many)
            self.assertEqual(mend(code, received, wiped), (word, differing(received, wiped, word)))

    def test_wiped_places_play_no_part(self):
        rng = random.Random(6)
        code = BchCode(Field(4, 19), 15, 1, 7)
        for wrong, wiped_many in ((0, 6), (1, 4), (2, 2), (2, 1), (0, 3)):
            word, received, wiped = case_at(code, rng, wrong, wiped_many)
            for bits in itertools.product((0, 1), repeat=wiped_many):
                other = list(received)
                for place, bit in zip(wiped, bits):
                    other[place] = bit
                found = fresh(self, mend, code, other, wiped)
                self.assertEqual(found, (word, differing(received, wiped, word)))
                self.assertEqual(len(found[1]), wrong)
                self.assertIs(check_word(code, other, wiped, word), True)

    def test_near_words_of_the_root_code_that_are_no_bits(self):
        # Whatever is found, it is a list of bits.
        rng = random.Random(7)
        code = BchCode(Field(4, 19), 15, 1, 5)
        missed = 0
        for _ in range(200):
            received = [rng.randrange(2) for _ in range(15)]
            wiped = sorted(rng.sample(range(15), 4))
            found = mend(code, received, wiped)
            missed += found is None
            if found is not None:
                self.assertTrue(all(bit in (0, 1) for bit in found[0]))
                self.assertTrue(code.is_word(found[0]))
        self.assertLess(0, missed)


class TestCheck(unittest.TestCase):
    def test_any_lists(self):
        rng = random.Random(8)
        code = BchCode(Field(4, 19), 15, 1, 7)
        word, received, wiped = case_at(code, rng, 2, 2)
        self.assertIs(fresh(self, check_word, code, received, wiped, word), True)
        others = [[], word[:-1], word + [0], word + word, received, [0] * 14, [0] * 16]
        for k in range(15):
            for number in (2, 3, -1, 2 ** 40, word[k] + 2, word[k] - 2, word[k] + 16, 1 - word[k]):
                others.append(word[:k] + [number] + word[k + 1:])
        for other in others:
            self.assertIs(fresh(self, check_word, code, received, wiped, other), False)

    def test_integers_that_look_like_a_word(self):
        # Sums of other integers that make the polynomial of a word, if they are not looked at.
        code = BchCode(Field(3, 11), 7, 1, 3)
        word = code.codeword([0, 1, 0, 0])
        for k in range(6):
            if word[k + 1] == 1:
                other = list(word)
                other[k], other[k + 1] = other[k] + 2, 0
                self.assertIs(check_word(code, word, [], other), False)
                self.assertIs(check_word(code, word, [k, k + 1], other), False)

    def test_root_code_words_are_no_words(self):
        code = BchCode(Field(3, 11), 7, 1, 3)
        self.assertIs(check_word(code, [0] * 7, [], [0] * 7), True)
        self.assertIs(check_word(code, [0] * 7, [], [2] * 7), False)

    def test_wrong_sizes_come_first(self):
        code = BchCode(Field(4, 19), 15, 1, 7)
        for size in (0, 1, 14, 16, 30):
            for wiped in ([], [-1], [1, 0], [40]):
                raises(self, "WrongSize", 0, mend, code, [1] * size, wiped)
                for word in ([], [0] * 15, [1] * size):
                    raises(self, "WrongSize", 0, check_word, code, [1] * size, wiped, word)

    def test_wrong_places_come_next(self):
        code = BchCode(Field(4, 19), 15, 1, 7)
        for wiped, k in (
            ([-1], 0), ([15], 0), ([0, 0], 1), ([1, 0], 1), ([0, 5, 15], 2), ([0, 5, 5, 3], 2), ([0, 14, -1], 2),
            ([2 ** 40], 0), ([-(2 ** 40), -1], 0), (list(range(16)), 15), ([5, 4, 3, 2, 1, 0, -1, 99], 1),
        ):
            raises(self, "WrongPlace", k, mend, code, [0] * 15, wiped)
            for word in ([], [0] * 15, [7] * 20):
                raises(self, "WrongPlace", k, check_word, code, [0] * 15, wiped, word)

    def test_all_places_wiped(self):
        code = BchCode(Field(4, 19), 15, 1, 15)
        self.assertIsNone(mend(code, [0] * 15, list(range(15))))
        self.assertEqual(mend(code, [1] * 15, list(range(14))), ([1] * 15, []))
        self.assertEqual(mend(code, [1] * 14 + [0], list(range(14))), ([0] * 15, []))
