import itertools
import random
import time
import unittest

from farhaul.bch.least import check_unseen, least_unseen, profile, state_paper
from farhaul.fields.field import Field
from farhaul.bch.code import BchCode
from reference import fresh, raises, slow_rest
from test_seals import BAD, number_of

SMALL = [3, 5, 7, 9, 11, 13, 15, 17, 19, 21, 31, 37, 47, 63, 67, 91, 127]


def best_pattern(seal, size):
    """The least unseen pattern, by trying all multiples of the seal."""
    found = None
    r = seal.bit_length() - 1
    for factor in range(1, 1 << (size - r)):
        product = 0
        for i in range(size - r):
            if factor >> i & 1:
                product ^= seal << i
        pattern = [product >> i & 1 for i in range(size)]
        if found is None or (sum(pattern), pattern) < found:
            found = (sum(pattern), pattern)
    return found


def state_bounds(seal, size, cost, paper):
    """Whether a state paper is a bound from below (point 1113), for the cost of a place and a bit."""
    states = 2 ** (seal.bit_length() - 1)
    if len(paper) != size + 1 or any(len(numbers) != states for numbers in paper):
        return False
    if paper[size][0] is None or paper[size][0] > 0:
        return False
    for place in range(size):
        rest = slow_rest(1 << place, seal)
        for state in range(states):
            for bit in (0, 1):
                behind = paper[place + 1][state ^ rest if bit else state]
                if behind is not None:
                    number = paper[place][state]
                    if number is None or number > behind + cost(place, bit):
                        return False
    return True


def unseen_passes(seal, size, weight, pattern, paper):
    """The check of point 1114, by its words."""
    if len(pattern) != size or any(bit not in (0, 1) for bit in pattern) or 1 not in pattern:
        return False
    if slow_rest(number_of(pattern), seal) != 0 or pattern.count(1) != weight:
        return False
    if not state_bounds(seal, size, lambda place, bit: bit, paper):
        return False
    for place in range(size):
        behind = paper[place + 1][slow_rest(1 << place, seal)]
        if behind is not None and weight > 1 + behind:
            return False
    return True


class TestLeastUnseen(unittest.TestCase):
    def test_against_all_patterns(self):
        for seal in SMALL + [129, 255, 257, 285, 511]:
            r = seal.bit_length() - 1
            for size in range(r + 1, r + 8):
                found = fresh(self, least_unseen, seal, size)
                self.assertIs(type(found), tuple)
                self.assertEqual(found, best_pattern(seal, size))

    def test_least_size(self):
        for seal in SMALL + [257, 285, 509, 511]:
            r = seal.bit_length() - 1
            self.assertEqual(least_unseen(seal, r + 1), (bin(seal).count("1"), [seal >> i & 1 for i in range(r + 1)]))

    def test_paper_is_accepted(self):
        for seal in SMALL + [257, 285, 511]:
            for size in (seal.bit_length(), seal.bit_length() + 3, 20):
                weight, pattern = least_unseen(seal, size)
                paper = fresh(self, state_paper, seal, size)
                self.assertIs(fresh(self, check_unseen, seal, size, weight, pattern, paper), True)
                self.assertTrue(unseen_passes(seal, size, weight, pattern, paper))

    def test_great_sizes(self):
        start = time.monotonic()
        for seal in (3, 11, 97, 255, 257, 285, 487, 511):
            for size in (100, 255, 256, 300):
                weight, pattern = least_unseen(seal, size)
                self.assertEqual((len(pattern), pattern.count(1)), (size, weight))
                self.assertEqual(slow_rest(number_of(pattern), seal), 0)
                self.assertTrue(check_unseen(seal, size, weight, pattern, state_paper(seal, size)))
        self.assertLess(time.monotonic() - start, 120)
        # The order of this primitive seal is 255.
        self.assertEqual(least_unseen(285, 255)[0], 3)
        self.assertEqual(least_unseen(285, 256), (2, [1] + [0] * 254 + [1]))
        self.assertEqual(least_unseen(285, 300), (2, [0] * 44 + [1] + [0] * 254 + [1]))

    def test_generators_of_bch_codes(self):
        for m, modulus, n, design in ((3, 11, 7, 3), (4, 19, 15, 3), (4, 19, 15, 5), (4, 25, 15, 4), (3, 13, 7, 2)):
            code = BchCode(Field(m, modulus), n, 1, design)
            self.assertLessEqual(design, least_unseen(code.generator(), n)[0])

    def test_errors(self):
        for seal in BAD + (513, 1023, 515, 65537):
            for size in (0, 2, 9, 300, 301, -1):
                raises(self, "BadSeal", seal, least_unseen, seal, size)
                raises(self, "BadSeal", seal, state_paper, seal, size)
                raises(self, "BadSeal", seal, profile, seal, size)
                raises(self, "BadSeal", seal, check_unseen, seal, size, 0, [], [])
        for seal in SMALL + [257, 511]:
            r = seal.bit_length() - 1
            for size in (r, r - 1, 0, -1, 301, 302, 2 ** 40, -(2 ** 40)):
                raises(self, "OutOfRange", size, least_unseen, seal, size)
                raises(self, "OutOfRange", size, state_paper, seal, size)
                raises(self, "OutOfRange", size, profile, seal, size)
                raises(self, "OutOfRange", size, check_unseen, seal, size, 0, [0] * 3, [])


class TestCheck(unittest.TestCase):
    CASES = [(3, 2), (3, 5), (5, 5), (7, 6), (11, 7), (11, 8), (13, 6), (31, 6)]

    def assert_checked(self, seal, size, weight, pattern, paper):
        found = fresh(self, check_unseen, seal, size, weight, pattern, paper)
        self.assertIs(found, unseen_passes(seal, size, weight, pattern, paper))
        return found

    def test_papers_of_another_form(self):
        for seal, size in self.CASES:
            weight, pattern = least_unseen(seal, size)
            paper = state_paper(seal, size)
            others = [[], paper[1:], paper[:-1], paper + [paper[-1]], [paper[0]] + paper]
            for k in range(len(paper)):
                for numbers in ([], paper[k][:-1], paper[k] + [0], paper[k] + [None]):
                    others.append(paper[:k] + [numbers] + paper[k + 1:])
            for other in others:
                self.assertFalse(self.assert_checked(seal, size, weight, pattern, other))

    def test_each_number_changed(self):
        for seal, size in self.CASES:
            weight, pattern = least_unseen(seal, size)
            paper = state_paper(seal, size)
            told = 0
            for place in range(len(paper)):
                for state in range(len(paper[place])):
                    number = paper[place][state]
                    changes = [None, 0, 1, -(2 ** 40), 2 ** 40]
                    if number is not None:
                        changes += [number + 1, number - 1]
                    for change in changes:
                        other = [list(numbers) for numbers in paper]
                        other[place][state] = change
                        found = self.assert_checked(seal, size, weight, pattern, other)
                        told += found
                        if number is not None and change in (None, number + 1):
                            self.assertFalse(found)
            self.assertLess(0, told)

    def test_other_patterns(self):
        for seal, size in self.CASES:
            weight, pattern = least_unseen(seal, size)
            paper = state_paper(seal, size)
            told = 0
            for other_size in (size - 1, size, size + 1):
                for other in itertools.product((0, 1), repeat=other_size):
                    for claim in {weight, sum(other)}:
                        told += self.assert_checked(seal, size, claim, list(other), paper)
            self.assertLess(0, told)
            for wrong in (2, -1, 3, 2 ** 40):
                for k in range(size):
                    other = pattern[:k] + [wrong] + pattern[k + 1:]
                    self.assertFalse(check_unseen(seal, size, weight, other, paper))
            for other in ([], [0] * size, pattern + [0], [0] + pattern):
                for claim in (weight, 0):
                    self.assertFalse(self.assert_checked(seal, size, claim, other, paper))

    def test_patterns_of_other_integers(self):
        for seal, size in ((3, 4), (5, 4), (7, 4), (3, 5)):
            weight = least_unseen(seal, size)[0]
            paper = state_paper(seal, size)
            for other in itertools.product((-1, 0, 1, 2, 3), repeat=size):
                if not set(other) <= {0, 1}:
                    self.assertIs(check_unseen(seal, size, weight, list(other), paper), False)
        # As a sum of 1 and 2 * x ** 6, which is x ** 7, this would be a multiple of the seal.
        self.assertIs(check_unseen(11, 7, 3, [1, 0, 0, 0, 0, 0, 2], state_paper(11, 7)), False)

    def test_other_weights(self):
        for seal, size in self.CASES:
            weight, pattern = least_unseen(seal, size)
            paper = state_paper(seal, size)
            for claim in (weight - 1, weight + 1, 0, -weight, 2 ** 40):
                self.assertFalse(self.assert_checked(seal, size, claim, pattern, paper))

    def test_lower_papers_and_empty_ones(self):
        for seal, size in self.CASES:
            weight, pattern = least_unseen(seal, size)
            paper = state_paper(seal, size)
            lower = [[None if number is None else number - 1 for number in numbers] for numbers in paper]
            self.assertFalse(self.assert_checked(seal, size, weight, pattern, lower))
            self.assertFalse(self.assert_checked(seal, size, weight, pattern, [[None] * len(paper[0])] * len(paper)))
            first = [[-9 if number is None else number - 9 for number in paper[0]]] + paper[1:]
            self.assertTrue(self.assert_checked(seal, size, weight, pattern, first))

    def test_random_papers(self):
        rng = random.Random(511)
        for seal, size in self.CASES[:4]:
            weight, pattern = least_unseen(seal, size)
            paper = state_paper(seal, size)
            for _ in range(200):
                other = [[number if rng.randrange(9) else rng.choice((None, -2, 0, 1, 2)) for number in numbers]
                         for numbers in paper]
                self.assert_checked(seal, size, weight, pattern, other)


class TestProfile(unittest.TestCase):
    def test_against_each_size(self):
        for seal in SMALL + [129, 285]:
            r = seal.bit_length() - 1
            known, last = [], None
            for size in range(r + 1, 61):
                weight = least_unseen(seal, size)[0]
                if weight != last:
                    known.append((size, weight))
                last = weight
                found = fresh(self, profile, seal, size)
                self.assertEqual(found, known)
                self.assertTrue(all(type(pair) is tuple for pair in found))

    def test_great_sizes(self):
        for seal in range(257, 512, 2):
            pairs = profile(seal, 300)
            self.assertEqual(pairs[0], (9, bin(seal).count("1")))
            numbers = [number for _, number in pairs]
            self.assertEqual(numbers, sorted(set(numbers), reverse=True))
            if seal in (285, 487, 511):
                for size, number in pairs:
                    self.assertEqual(least_unseen(seal, size)[0], number)
                    if size > 9:
                        self.assertLess(number, least_unseen(seal, size - 1)[0])
        self.assertEqual(profile(285, 300)[-1], (256, 2))
