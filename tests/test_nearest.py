import itertools
import random
import unittest

from farhaul.bch.code import BchCode
from farhaul.bch.least import least_unseen
from farhaul.bch.mending import mend
from farhaul.bch.nearest import check_nearest, margin, nearest
from farhaul.bch.seals import is_sealed, sealed
from farhaul.fields.field import Field
from reference import fresh, raises, slow_rest
from test_least_unseen import SMALL, state_bounds
from test_paths import noisy
from test_seals import BAD, number_of


def all_sealed(seal, size):
    """All sealed rows of a size, as multiples of the seal."""
    rows = []
    for factor in range(1 << (size - seal.bit_length() + 1)):
        product = 0
        for i in range(size):
            if factor >> i & 1:
                product ^= seal << i
        rows.append([product >> i & 1 for i in range(size)])
    return rows


def slow_price(received, row):
    return sum(1 for bit, other in zip(row, received) if other in (0, 1) and other != bit)


def all_prices(seal, received):
    """The pairs of price and row, in the order in which they are told."""
    return sorted((slow_price(received, row), row) for row in all_sealed(seal, len(received)))


def nearest_passes(seal, received, row, claim, paper):
    """The check of point 1116, by its words."""
    size = len(received)
    if len(row) != size or any(bit not in (0, 1) for bit in row) or slow_rest(number_of(row), seal) != 0:
        return False

    def cost(place, bit):
        return 0 if received[place] is None or received[place] == bit else 1

    if slow_price(received, row) != claim or not state_bounds(seal, size, cost, paper):
        return False
    for place in range(size):
        state = slow_rest(number_of(row[:place]), seal)
        if row[place] == 0:
            state ^= slow_rest(1 << place, seal)
        behind = paper[place + 1][state]
        if behind is not None:
            total = slow_price(received[:place], row[:place]) + cost(place, 1 - row[place]) + behind
            if total < claim or (row[place] == 1 and total == claim):
                return False
    return True


def rows_for(seal, size, rng, many=2):
    """Some received rows of any kind, all bits, all wiped, and rows near to sealed ones."""
    rows = [[None] * size, [0] * size, [1] * size]
    for _ in range(many):
        rows.append([rng.choice((0, 1)) for _ in range(size)])
        rows.append([rng.choice((0, 1, None)) for _ in range(size)])
        message = [rng.randrange(2) for _ in range(size - seal.bit_length() + 1)]
        rows.append(noisy(sealed(seal, message), rng, rng.randrange(3), rng.randrange(4)))
    return rows


class TestNearest(unittest.TestCase):
    def test_against_all_rows(self):
        rng = random.Random(1115)
        for seal in SMALL + [129, 257, 285, 511]:
            r = seal.bit_length() - 1
            for size in range(r + 1, r + 7):
                for received in rows_for(seal, size, rng, many=1):
                    known = all_prices(seal, received)
                    found = fresh(self, nearest, seal, received)
                    self.assertIs(type(found), tuple)
                    self.assertEqual(found[:2], (known[0][1], known[0][0]))
                    self.assertEqual(fresh(self, margin, seal, received), known[1][0] - known[0][0])
                    row, claim, paper = found
                    self.assertIs(fresh(self, check_nearest, seal, received, row, claim, paper), True)
                    self.assertTrue(nearest_passes(seal, received, row, claim, paper))

    def test_every_small_row(self):
        for seal, size in ((3, 4), (7, 5), (11, 6), (5, 6)):
            for received in itertools.product((0, 1, None), repeat=size):
                known = all_prices(seal, list(received))
                row, claim, paper = nearest(seal, list(received))
                self.assertEqual((claim, row), known[0])
                self.assertEqual(margin(seal, list(received)), known[1][0] - known[0][0])
                self.assertTrue(check_nearest(seal, list(received), row, claim, paper))

    def test_first_one_of_several(self):
        # All sealed rows have one price if all is wiped: the one of bits 0 is the first.
        for seal in SMALL:
            for size in (seal.bit_length(), 20):
                self.assertEqual(nearest(seal, [None] * size)[:2], ([0] * size, 0))
                self.assertEqual(margin(seal, [None] * size), 0)
        self.assertEqual(nearest(3, [1, 0, 0])[:2], ([0, 0, 0], 1))
        self.assertEqual(nearest(3, [0, 1, None])[:2], ([0, 1, 1], 0))
        self.assertEqual(nearest(3, [1, 1, 1])[:2], ([0, 1, 1], 1))

    def test_great_sizes(self):
        rng = random.Random(1116)
        for seal in (3, 97, 285, 511):
            for size in (100, 300):
                for turned, wiped in ((0, 0), (5, 30), (0, 7)):
                    message = [rng.randrange(2) for _ in range(size - seal.bit_length() + 1)]
                    received = noisy(sealed(seal, message), rng, turned, wiped)
                    row, claim, paper = nearest(seal, received)
                    self.assertTrue(is_sealed(seal, row))
                    self.assertEqual((len(row), slow_price(received, row)), (size, claim))
                    self.assertLessEqual(claim, turned)
                    self.assertTrue(check_nearest(seal, received, row, claim, paper))
                    self.assertLessEqual(0, margin(seal, received))

    def test_margin_of_sealed_rows(self):
        # A sealed row differs from the next ones in as many places as the least unseen pattern has bits 1.
        for seal in (7, 11, 19, 285):
            for size in (seal.bit_length(), 30, 300):
                row = sealed(seal, [k % 3 % 2 for k in range(size - seal.bit_length() + 1)])
                self.assertEqual(nearest(seal, row)[:2], (row, 0))
                self.assertEqual(margin(seal, row), least_unseen(seal, size)[0])

    def bch_codes(self):
        return [BchCode(Field(3, 11), 7, 1, 3), BchCode(Field(4, 19), 15, 1, 3), BchCode(Field(4, 19), 15, 1, 5),
                BchCode(Field(4, 25), 12, 1, 4), BchCode(Field(3, 13), 7, 0, 4), BchCode(Field(4, 31), 15, 0, 6)]

    def test_words_of_bch_codes(self):
        for code in self.bch_codes():
            rows = sorted(all_sealed(code.generator(), code.n))
            if code.n < 10:
                words = [list(bits) for bits in itertools.product((0, 1), repeat=code.n) if code.is_word(list(bits))]
                self.assertEqual(rows, words)
            self.assertTrue(all(code.is_word(row) for row in rows))
            self.assertEqual(len(rows), 2 ** (code.n - code.checks()))
            if code.checks() <= 8:
                self.assertLessEqual(code.design, least_unseen(code.generator(), code.n)[0])

    def test_within_the_design(self):
        rng = random.Random(1117)
        for code in self.bch_codes():
            if code.checks() > 8:
                continue
            for _ in range(60):
                word = code.codeword([rng.randrange(2) for _ in range(code.n - code.checks())])
                wiped = sorted(rng.sample(range(code.n), rng.randrange(code.design)))
                turned = rng.sample(range(code.n), rng.randrange(3))
                received = [bit ^ (k in turned) for k, bit in enumerate(word)]
                mended = mend(code, received, wiped)
                row, claim, _ = nearest(code.generator(), [None if k in wiped else b for k, b in enumerate(received)])
                if 2 * len([k for k in turned if k not in wiped]) + len(wiped) < code.design:
                    self.assertEqual(mended[0], word)
                if mended is not None:
                    self.assertEqual((row, claim), (mended[0], len(mended[1])))


class TestErrors(unittest.TestCase):
    def assert_both(self, name, at, seal, received):
        raises(self, name, at, nearest, seal, received)
        raises(self, name, at, margin, seal, received)
        raises(self, name, at, check_nearest, seal, received, [], 0, [])
        raises(self, name, at, check_nearest, seal, received, received, 0, [[0]])

    def test_seals(self):
        for seal in BAD + (513, 1023, 515, 65537):
            for size in (0, 5, 20, 300, 301):
                self.assert_both("BadSeal", seal, seal, [0] * size)

    def test_sizes(self):
        for seal in SMALL + [257, 511]:
            r = seal.bit_length() - 1
            for size in (0, r - 1, r, 301, 302, 1000):
                self.assert_both("OutOfRange", size, seal, [None, 1] * (size // 2) + [0] * (size % 2))
            self.assertEqual(nearest(seal, [0] * 300)[:2], ([0] * 300, 0))


class TestCheck(unittest.TestCase):
    def assert_checked(self, seal, received, row, claim, paper):
        found = fresh(self, check_nearest, seal, received, row, claim, paper)
        self.assertIs(found, nearest_passes(seal, received, row, claim, paper))
        return found

    def examples(self, seed):
        rng = random.Random(seed)
        for seal in (3, 5, 7, 11, 13, 31):
            for received in rows_for(seal, seal.bit_length() + 2, rng, many=1):
                yield (seal, received) + nearest(seal, received)

    def test_other_rows_and_prices(self):
        for seal, received, row, claim, paper in self.examples(1118):
            for other in all_sealed(seal, len(received)):
                price = slow_price(received, other)
                for number in (price, claim, price + 1, price - 1):
                    found = self.assert_checked(seal, received, other, number, paper)
                    self.assertIs(found, (other, number) == (row, claim))
            for k in range(len(row)):
                for bit in (1 - row[k], 2, -1, 2 ** 40):
                    other = row[:k] + [bit] + row[k + 1:]
                    for number in (claim, claim + 1, claim - 1):
                        self.assertFalse(self.assert_checked(seal, received, other, number, paper))
            for other in ([], row[1:], row[:-1], row + [0], [0] + row, row + row):
                self.assertFalse(self.assert_checked(seal, received, other, claim, paper))

    def test_elements_that_are_no_bits(self):
        # A 2 stands for x, so that it has the same rest as a 1 in the next place.
        rng = random.Random(1124)
        for seal in (3, 5, 7, 11):
            for _ in range(6):
                row = sealed(seal, [rng.randrange(2) for _ in range(5)])
                for k in [k for k in range(len(row) - 1) if row[k + 1] == 1]:
                    received = row[:k] + [None, None] + row[k + 2:]
                    told, claim, paper = nearest(seal, received)
                    other = row[:k] + [row[k] + 2, 0] + row[k + 2:]
                    self.assertFalse(self.assert_checked(seal, received, other, claim, paper))

    def test_each_number_changed(self):
        told = {}
        for seal, received, row, claim, paper in self.examples(1119):
            for place in range(len(paper)):
                for state in range(len(paper[place])):
                    number = paper[place][state]
                    for other in (None, 0, claim, -(2 ** 40), 2 ** 40, (number or 0) + 1, (number or 0) - 1):
                        changed = [list(numbers) for numbers in paper]
                        changed[place][state] = other
                        found = self.assert_checked(seal, received, row, claim, changed)
                        told[found] = told.get(found, 0) + 1
                        if number is not None and (other is None or other > number):
                            self.assertFalse(found)
        self.assertLess(50, min(told[True], told[False]))

    def test_other_forms(self):
        for seal, received, row, claim, paper in self.examples(1120):
            others = [[], paper[1:], paper[:-1], paper + [paper[-1]], [paper[0]] + paper, paper[::-1]]
            others.append([[None] * len(numbers) for numbers in paper])
            for k in range(len(paper)):
                for numbers in ([], paper[k][:-1], paper[k] + [0], paper[k] + [None], paper[k][1:]):
                    others.append(paper[:k] + [numbers] + paper[k + 1:])
            for other in others:
                self.assertFalse(self.assert_checked(seal, received, row, claim, other))

    def test_papers_that_are_moved(self):
        # With all numbers lower by one the bound is too low, except where nothing else is near.
        for seal, received, row, claim, paper in self.examples(1121):
            for step in (-2, -1, 1):
                other = [[None if number is None else number + step for number in numbers] for numbers in paper]
                self.assert_checked(seal, received, row, claim, other)

    def test_papers_for_other_rows(self):
        rng = random.Random(1122)
        for seal, received, row, claim, paper in self.examples(1123):
            for other in rows_for(seal, len(received), rng, many=1):
                self.assert_checked(seal, received, row, claim, nearest(seal, other)[2])
