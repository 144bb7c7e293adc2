import itertools
import random
import unittest

from farhaul.fields.field import Field
from farhaul.rootcodes.code import RootCode
from farhaul.rootcodes.mending import check_correction, corrected, mend
from reference import all_fields, fresh, raises, subsets


def words_of(code):
    messages = itertools.product(range(code.field.size()), repeat=code.n - code.checks)
    return [code.codeword(list(message)) for message in messages]


def near_words(code, words, received, wiped):
    """All near words, by the definition."""
    kept = [place for place in range(code.n) if place not in wiped]
    most = code.checks - len(wiped)
    return [word for word in words if 2 * sum(word[k] != received[k] for k in kept) <= most]


def correction_of(received, wiped, word):
    bare = [0 if k in wiped else e for k, e in enumerate(received)]
    return [(k, bare[k] ^ word[k]) for k in range(len(word)) if bare[k] != word[k]]


def passes(code, received, wiped, pairs):
    """The check of point 305, by its words."""
    places = [place for place, _ in pairs]
    if places != sorted(set(places)) or any(place not in range(code.n) for place in places):
        return False
    if any(value not in range(1, code.field.size()) for _, value in pairs):
        return False
    if 2 * len([place for place in places if place not in wiped]) + len(wiped) > code.checks:
        return False
    symbols = [0 if k in wiped else e for k, e in enumerate(received)]
    for place, value in pairs:
        symbols[place] ^= value
    return code.is_word(symbols)


def case_at(code, rng, wrong, wiped):
    """A word, a received list with so many wrong and wiped places, and the wiped places."""
    q = code.field.size()
    word = code.codeword([rng.randrange(q) for _ in range(code.n - code.checks)])
    places = rng.sample(range(code.n), wrong + wiped)
    received = list(word)
    for place in places[:wrong]:
        received[place] ^= rng.randrange(1, q)
    for place in places[wrong:]:
        received[place] = rng.randrange(q)
    return word, received, sorted(places[wrong:])


class TestMend(unittest.TestCase):
    def assert_mended(self, code, words, received, wiped):
        near = near_words(code, words, received, wiped)
        found = mend(code, received, wiped)
        if not near:
            self.assertIsNone(found)
            return
        self.assertEqual(len(near), 1)
        self.assertIs(type(found), tuple)
        word, pairs = found
        self.assertEqual(word, near[0])
        self.assertEqual(pairs, correction_of(received, wiped, word))
        self.assertTrue(all(type(pair) is tuple for pair in pairs))
        self.assertIs(check_correction(code, received, wiped, pairs), True)
        self.assertEqual(corrected(code, received, wiped, pairs), word)

    def test_all_received_lists_of_codes_with_four_elements(self):
        field = Field(2, 7)
        for n, checks in ((2, 1), (3, 1), (3, 2)):
            for first in range(3):
                code = RootCode(field, n, first, checks)
                words = words_of(code)
                for received in itertools.product(range(4), repeat=n):
                    for wiped in subsets(range(n)):
                        self.assert_mended(code, words, list(received), wiped)

    def test_codes_with_eight_elements(self):
        rng = random.Random(1)
        for field in (Field(3, 11), Field(3, 13)):
            for n, checks in ((2, 1), (4, 3), (4, 2), (5, 4), (6, 4), (7, 6), (7, 5)):
                code = RootCode(field, n, rng.randrange(7), checks)
                words = words_of(code)
                for wiped in subsets(range(n)):
                    for _ in range(3):
                        received = [rng.randrange(8) for _ in range(n)]
                        self.assert_mended(code, words, received, wiped)
                        near = list(rng.choice(words))
                        for place in rng.sample(range(n), rng.randrange(min(n, checks // 2 + 1) + 1)):
                            near[place] = rng.randrange(8)
                        self.assert_mended(code, words, near, wiped)

    def test_every_first(self):
        rng = random.Random(2)
        for first in range(7):
            code = RootCode(Field(3, 11), 7, first, 5)
            words = words_of(code)
            for _ in range(30):
                received = case_at(code, rng, 2, rng.randrange(2))[1]
                self.assert_mended(code, words, received, [])
                self.assert_mended(code, words, received, sorted(rng.sample(range(7), rng.randrange(6))))

    def test_wiped_places_play_no_part(self):
        rng = random.Random(3)
        code = RootCode(Field(4, 19), 12, 2, 6)
        for wiped_many in range(1, 7):
            _, received, wiped = case_at(code, rng, (6 - wiped_many) // 2, wiped_many)
            found = mend(code, received, wiped)
            for place in wiped:
                for symbol in range(16):
                    other = list(received)
                    other[place] = symbol
                    self.assertEqual(mend(code, other, wiped), found)
                    self.assertTrue(check_correction(code, other, wiped, found[1]))
                    self.assertEqual(corrected(code, other, wiped, found[1]), found[0])

    def test_all_wiped_and_as_many_as_checks(self):
        rng = random.Random(4)
        for n, checks in ((15, 1), (15, 7), (15, 14), (9, 4)):
            code = RootCode(Field(4, 25), n, 3, checks)
            self.assertIsNone(mend(code, [0] * n, list(range(n))))
            word, received, wiped = case_at(code, rng, 0, checks)
            self.assertEqual(mend(code, received, wiped)[0], word)
            # Whatever is received elsewhere, just one word has it.
            anything = [rng.randrange(16) for _ in range(n)]
            filled = mend(code, anything, wiped)[0]
            self.assertTrue(code.is_word(filled))
            self.assertEqual([filled[k] for k in range(n) if k not in wiped],
                             [anything[k] for k in range(n) if k not in wiped])

    def test_greater_codes_at_the_bound(self):
        rng = random.Random(5)
        for field in all_fields():
            q = field.size()
            for _ in range(12):
                n = rng.randrange(3, min(q, 64))
                checks = rng.randrange(1, n)
                code = RootCode(field, n, rng.randrange(q - 1), checks)
                for wiped_many in sorted({0, checks % 2, checks, checks - 1, rng.randrange(checks + 1)}):
                    for total in (checks, checks - 1):
                        wrong = (total - wiped_many) // 2
                        if wrong >= 0:
                            word, received, wiped = case_at(code, rng, wrong, wiped_many)
                            pairs = correction_of(received, wiped, word)
                            self.assertEqual(mend(code, received, wiped), (word, pairs))
                            self.assertTrue(check_correction(code, received, wiped, pairs))

    def test_greater_codes_beyond_the_bound(self):
        # With one more than the bound no other word is near: it would be too near to the first one.
        rng = random.Random(6)
        for field in all_fields():
            q = field.size()
            for _ in range(12):
                n = rng.randrange(3, min(q, 64))
                checks = rng.randrange(1, n)
                code = RootCode(field, n, rng.randrange(q - 1), checks)
                for wrong in range((checks + 1) // 2 + 1):
                    word, received, wiped = case_at(code, rng, wrong, checks + 1 - 2 * wrong)
                    self.assertIsNone(mend(code, received, wiped))
                    self.assertFalse(check_correction(code, received, wiped, correction_of(received, wiped, word)))

    def test_longest_code(self):
        rng = random.Random(7)
        field = Field(8, 285)
        for checks in (1, 40, 254):
            code = RootCode(field, 255, 254, checks)
            word, received, wiped = case_at(code, rng, checks // 4, checks - 2 * (checks // 4))
            self.assertEqual(mend(code, received, wiped), (word, correction_of(received, wiped, word)))

    def test_fresh(self):
        rng = random.Random(8)
        code = RootCode(Field(4, 19), 12, 2, 6)
        for wrong, wiped_many in ((0, 0), (3, 0), (2, 2), (0, 6), (4, 1)):
            _, received, wiped = case_at(code, rng, wrong, wiped_many)
            fresh(self, mend, code, received, wiped)
        self.assertEqual(mend(code, [0] * 12, []), ([0] * 12, []))


class TestCorrections(unittest.TestCase):
    def setUp(self):
        rng = random.Random(9)
        self.code = RootCode(Field(4, 19), 12, 2, 6)
        self.word, self.received, self.wiped = case_at(self.code, rng, 2, 2)
        self.pairs = correction_of(self.received, self.wiped, self.word)

    def assert_checked(self, code, received, wiped, pairs):
        found = fresh(self, check_correction, code, received, wiped, pairs)
        self.assertIs(found, passes(code, received, wiped, pairs), pairs)
        return found

    def test_the_correction(self):
        self.assertTrue(self.assert_checked(self.code, self.received, self.wiped, self.pairs))
        self.assertEqual(fresh(self, corrected, self.code, self.received, self.wiped, self.pairs), self.word)

    def test_another_order_or_a_place_twice(self):
        for pairs in itertools.permutations(self.pairs):
            self.assertIs(self.assert_checked(self.code, self.received, self.wiped, list(pairs)),
                          list(pairs) == self.pairs)
        for k in range(len(self.pairs)):
            place, value = self.pairs[k]
            twice = self.pairs[:k] + [(place, 1), (place, value ^ 1)] + self.pairs[k + 1:]
            self.assertFalse(self.assert_checked(self.code, self.received, self.wiped, twice))
            self.assertFalse(self.assert_checked(self.code, self.received, self.wiped, [self.pairs[k]] + self.pairs))

    def test_values(self):
        for k in range(len(self.pairs)):
            place, value = self.pairs[k]
            for other in (-(2 ** 33), -1, 0, 16, 17, value ^ 16, value + 2 ** 40, value - 16, -value):
                wrong = self.pairs[:k] + [(place, other)] + self.pairs[k + 1:]
                self.assertFalse(self.assert_checked(self.code, self.received, self.wiped, wrong))
            for other in range(1, 16):
                pairs = self.pairs[:k] + [(place, other)] + self.pairs[k + 1:]
                self.assertIs(self.assert_checked(self.code, self.received, self.wiped, pairs), other == value)

    def test_a_value_0_that_changes_nothing(self):
        used = [place for place, _ in self.pairs]
        for place in range(12):
            if place not in used:
                more = sorted(self.pairs + [(place, 0)])
                self.assertFalse(self.assert_checked(self.code, self.received, self.wiped, more))

    def test_places(self):
        for k in range(len(self.pairs)):
            for place in (-13, -12, -1, 12, 13, 2 ** 40, self.pairs[k][0] - 12, self.pairs[k][0] + 12):
                wrong = self.pairs[:k] + [(place, self.pairs[k][1])] + self.pairs[k + 1:]
                self.assertFalse(self.assert_checked(self.code, self.received, self.wiped, wrong))
            self.assertFalse(self.assert_checked(
                self.code, self.received, self.wiped, self.pairs[:k] + self.pairs[k + 1:]))

    def test_too_many_places(self):
        # The sum of the correction and a word leads to a word, too, but has too many places.
        for places in itertools.combinations(range(12), 7):
            other = [e ^ f for e, f in zip(self.word, self.code.word_on(list(places)))]
            pairs = correction_of(self.received, self.wiped, other)
            self.assertFalse(self.assert_checked(self.code, self.received, self.wiped, pairs))

    def test_just_enough_places(self):
        rng = random.Random(10)
        code = RootCode(Field(3, 11), 7, 1, 4)
        for wrong, wiped_many in ((2, 0), (1, 2), (0, 4), (1, 0), (0, 0), (2, 1), (1, 3), (0, 5), (3, 0)):
            word, received, wiped = case_at(code, rng, wrong, wiped_many)
            found = self.assert_checked(code, received, wiped, correction_of(received, wiped, word))
            self.assertIs(found, 2 * wrong + wiped_many <= 4)

    def test_the_empty_correction(self):
        self.assertFalse(self.assert_checked(self.code, self.received, self.wiped, []))
        self.assertTrue(self.assert_checked(self.code, self.word, [], []))
        self.assertTrue(self.assert_checked(self.code, [0] * 12, [0, 3], []))
        self.assertTrue(self.assert_checked(self.code, [5] + [0] * 11, [0], []))
        self.assertFalse(self.assert_checked(self.code, [5] + [0] * 11, [], []))

    def test_no_word(self):
        self.assertFalse(self.assert_checked(self.code, self.received, self.wiped, [(0, 1)]))
        self.assertFalse(self.assert_checked(self.code, self.word, [], [(11, 15)]))

    def test_all_corrections_of_a_small_code(self):
        code = RootCode(Field(2, 7), 3, 1, 2)
        every = [list(pairs) for many in range(3)
                 for pairs in itertools.product(itertools.product(range(-1, 4), range(-1, 5)), repeat=many)]
        for received, wiped in (([1, 2, 3], []), ([1, 2, 3], [1]), ([0, 0, 3], [0, 2]), ([1, 0, 0], [0, 1, 2])):
            for pairs in every:
                self.assertIs(check_correction(code, received, wiped, pairs), passes(code, received, wiped, pairs))

    def test_corrected_need_not_be_a_word(self):
        self.assertEqual(fresh(self, corrected, self.code, [7] * 12, [], []), [7] * 12)
        self.assertEqual(fresh(self, corrected, self.code, [7] * 12, [0, 11], [(11, 3)]), [0] + [7] * 10 + [3])
        self.assertEqual(fresh(self, corrected, self.code, [7] * 12, [0, 11], [(1, 3), (2, 7)]),
                         [0, 4, 0] + [7] * 8 + [0])
        everywhere = [(k, 1) for k in range(12)]
        self.assertEqual(corrected(self.code, [7] * 12, list(range(12)), everywhere), [1] * 12)

    def test_wrong_corrections(self):
        for pairs, k in (
            ([(-1, 1)], 0), ([(12, 1)], 0), ([(0, 0)], 0), ([(0, 16)], 0), ([(0, -1)], 0), ([(0, 1), (0, 1)], 1),
            ([(3, 1), (2, 1), (-1, 0)], 1), ([(0, 1), (1, 2), (2, 0), (2, 0)], 2), ([(0, 1), (5, 15), (4, 3)], 2),
            ([(0, 1), (11, 2), (12, 2)], 2), ([(0, 1), (11, 2 ** 40)], 1), ([(2 ** 40, 1), (0, 0)], 0),
            ([(0, 1), (1, 1), (-1, 1)], 2), ([(0, 1), (3, 16), (2, 1)], 1),
        ):
            raises(self, "WrongCorrection", k, corrected, self.code, self.received, self.wiped, pairs)

    def test_wrong_sizes_come_first(self):
        for size in (0, 1, 11, 13, 24):
            for wiped in ([], [-1], [1, 0], [40]):
                raises(self, "WrongSize", 0, mend, self.code, [1] * size, wiped)
                for pairs in ([], [(-1, 0)]):
                    raises(self, "WrongSize", 0, check_correction, self.code, [1] * size, wiped, pairs)
                    raises(self, "WrongSize", 0, corrected, self.code, [1] * size, wiped, pairs)

    def test_wrong_places_come_next(self):
        for wiped, k in (
            ([-1], 0), ([12], 0), ([0, 0], 1), ([1, 0], 1), ([0, 5, 12], 2), ([0, 5, 5, 3], 2), ([0, 11, -1], 2),
            ([2 ** 40], 0), ([-(2 ** 40), -1], 0), (list(range(13)), 12), ([5, 4, 3, 2, 1, 0, -1, 99], 1),
        ):
            raises(self, "WrongPlace", k, mend, self.code, self.received, wiped)
            for pairs in ([], self.pairs, [(-1, 0)]):
                raises(self, "WrongPlace", k, check_correction, self.code, self.received, wiped, pairs)
                raises(self, "WrongPlace", k, corrected, self.code, self.received, wiped, pairs)
