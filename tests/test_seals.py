import itertools
import random
import unittest

from farhaul.bch.seals import is_sealed, order, sealed, sees_odd, unseen_bursts
from reference import fresh, raises, slow_rest

SOME = [3, 5, 7, 9, 11, 13, 15, 19, 25, 31, 63, 73, 129, 255, 257, 285, 511, 513, 1023, 2053, 4179, 8219, 17475, 32771,
        65535, 65537, 69665, 98309, 131071]
BAD = (0, 1, 2, 4, 6, 8, 10, 65536, 65538, 131070, 131072, 131073, 131075, 2 ** 20 + 1, 2 ** 40 + 1, -1, -2, -3, -5,
       -7, -131071, -(2 ** 40) - 1)


def number_of(bits):
    return sum(bit << i for i, bit in enumerate(bits))


def slow_order(seal):
    k = 1
    while slow_rest(1 << k ^ 1, seal) != 0:
        k += 1
    return k


class TestRows(unittest.TestCase):
    def test_the_document_s_examples(self):
        self.assertEqual(sealed(3, [1, 1, 1]), [1, 1, 1, 1])
        self.assertIs(is_sealed(3, [1, 0, 0]), False)

    def test_sealed(self):
        rng = random.Random(501)
        for seal in SOME:
            r = seal.bit_length() - 1
            messages = [[rng.randrange(2) for _ in range(size)] for size in (0, 1, 2, 3, 8, 17, 40)]
            for message in messages + [[0] * 5, [1] * 30]:
                row = fresh(self, sealed, seal, message)
                self.assertEqual(len(row), len(message) + r)
                self.assertEqual(row[r:], message)
                self.assertEqual(slow_rest(number_of(row), seal), 0)
                self.assertIs(fresh(self, is_sealed, seal, row), True)

    def test_just_one_row_for_each_message(self):
        for seal in (3, 5, 7, 11, 13, 31, 37):
            r = seal.bit_length() - 1
            for size in range(5):
                for message in itertools.product((0, 1), repeat=size):
                    rows = [list(head + message) for head in itertools.product((0, 1), repeat=r)]
                    self.assertEqual([row for row in rows if is_sealed(seal, row)], [sealed(seal, list(message))])

    def test_is_sealed(self):
        for seal in (3, 5, 7, 11, 13, 31, 37, 129):
            for size in range(9):
                for row in itertools.product((0, 1), repeat=size):
                    found = is_sealed(seal, list(row))
                    self.assertIs(found, slow_rest(number_of(row), seal) == 0)

    def test_short_rows(self):
        for seal in SOME:
            r = seal.bit_length() - 1
            for size in range(r + 1):
                self.assertIs(is_sealed(seal, [0] * size), True)
                if size:
                    self.assertIs(is_sealed(seal, [0] * (size - 1) + [1]), False)
            self.assertIs(is_sealed(seal, [seal >> i & 1 for i in range(r + 1)]), True)

    def test_long_rows(self):
        rng = random.Random(502)
        for seal in (3, 69665, 98309):
            message = [rng.randrange(2) for _ in range(99000)]
            row = sealed(seal, message)
            self.assertIs(is_sealed(seal, row), True)
            row[50000] ^= 1
            self.assertIs(is_sealed(seal, row), False)

    def test_bad_seals(self):
        for seal in BAD:
            raises(self, "BadSeal", seal, sealed, seal, [1, 0, 1])
            raises(self, "BadSeal", seal, is_sealed, seal, [])
            raises(self, "BadSeal", seal, order, seal)
            raises(self, "BadSeal", seal, sees_odd, seal)
            for extent in (0, -1, 1, 65):
                raises(self, "BadSeal", seal, unseen_bursts, seal, extent)


class TestNumbers(unittest.TestCase):
    def test_order(self):
        for seal in list(range(3, 512, 2)) + [1033, 2053, 4179]:
            self.assertEqual(order(seal), slow_order(seal))

    def test_order_of_great_seals(self):
        # These are primitive, and a power of x and 1.
        self.assertEqual([order(seal) for seal in (69643, 65581)], [65535, 65535])
        self.assertEqual([order(seal) for seal in (65537, 32769, 131071)], [16, 15, 17])

    def test_two_ones_are_unseen_where_the_order_divides(self):
        for seal in (3, 5, 7, 11, 13, 19, 31, 45):
            for distance in range(1, 40):
                pattern = [0, 0, 1] + [0] * (distance - 1) + [1, 0]
                self.assertIs(is_sealed(seal, pattern), distance % order(seal) == 0)

    def test_unseen_bursts_against_counting(self):
        for seal in (3, 5, 7, 11, 13, 19, 31, 37, 69, 137, 285, 511, 513):
            for extent in range(1, 13):
                ends = [(1,)] if extent == 1 else [(1,) + middle + (1,)
                                                   for middle in itertools.product((0, 1), repeat=extent - 2)]
                known = sum(1 for bits in ends if slow_rest(number_of(bits), seal) == 0)
                self.assertEqual(unseen_bursts(seal, extent), known)

    def test_unseen_bursts(self):
        for seal in SOME:
            r = seal.bit_length() - 1
            for extent in range(1, 65):
                known = 0 if extent <= r else 1 if extent == r + 1 else 2 ** (extent - r - 2)
                self.assertEqual(unseen_bursts(seal, extent), known)
            for extent in (0, -1, 65, 66, 2 ** 40, -(2 ** 40)):
                raises(self, "OutOfRange", extent, unseen_bursts, seal, extent)

    def test_sees_odd(self):
        for seal in range(3, 128, 2):
            r = seal.bit_length() - 1
            rows = [sealed(seal, list(message)) for message in itertools.product((0, 1), repeat=r + 2)]
            self.assertIs(sees_odd(seal), all(sum(row) % 2 == 0 for row in rows))
        for seal in SOME:
            self.assertIs(sees_odd(seal), bin(seal).count("1") % 2 == 0)
