import itertools
import random
import unittest

from farhaul.paths.mending import check_path, margin
from farhaul.registers.least import least_row
from farhaul.registers.register import Register
from farhaul.tails.patterns import (
    breaking_punctured, check_punctured, kept_bits, least_punctured, mend_punctured, opened, punctured, punctured_bound,
    punctured_paper,
)
from reference import bounds_rows, fresh, raises
from test_least import common_factor_registers
from test_paths import all_prices, noisy
from test_register import slow_row, some_registers


def some_patterns(n, rng, many=3):
    """Patterns for so many taps: all bits kept, one bit kept, masks 0 among others, and any."""
    top = 2 ** n - 1
    found = [[top], [top, 0], [0, 0, 1], [1] + [top] * 7]
    for _ in range(many):
        pattern = [rng.randrange(top + 1) for _ in range(rng.randrange(1, 9))]
        if any(pattern):
            found.append(pattern)
    return found


def is_kept(pattern, n, place):
    """Whether the bit at a place of a row is kept."""
    return pattern[place // n % len(pattern)] >> (place % n) & 1 == 1


def slow_punctured(pattern, n, row):
    return [bit for place, bit in enumerate(row) if is_kept(pattern, n, place)]


def slow_opened(pattern, n, steps, sent):
    places = [place for place in range(steps * n) if is_kept(pattern, n, place)]
    row = [None] * (steps * n)
    for place, bit in zip(places, sent):
        row[place] = bit
    return row


def sent_row(shift_register, pattern, message):
    row = slow_row(shift_register.memory(), shift_register.taps(), message)
    return slow_punctured(pattern, len(shift_register.taps()), row)


def best_row(shift_register, pattern, count):
    """The punctured least row, by trying all messages."""
    messages = [list(message) for message in itertools.product((0, 1), repeat=count) if any(message)]
    return min((sum(sent_row(shift_register, pattern, message)), message) for message in messages)


def punctured_passes(shift_register, pattern, count, weight, message, paper):
    """The check of point 1204, by its words."""
    n = len(shift_register.taps())

    def cost(step, state, bit):
        out = shift_register.out(state, bit)
        return sum(b for j, b in enumerate(out) if is_kept(pattern, n, step * n + j))

    if not bounds_rows(shift_register, count, cost, paper):
        return False
    if len(message) != count or any(bit not in (0, 1) for bit in message) or 1 not in message:
        return False
    if sum(sent_row(shift_register, pattern, message)) != weight:
        return False
    for step in range(count):
        behind = paper[step + 1][shift_register.next_state(0, 1)]
        if behind is not None and cost(step, 0, 1) + behind < weight:
            return False
    return True


def examples(seed, many=1):
    rng = random.Random(seed)
    for shift_register in some_registers(seed, many=many) + common_factor_registers():
        for pattern in some_patterns(len(shift_register.taps()), rng):
            yield shift_register, pattern, rng


class TestRows(unittest.TestCase):
    def test_kept_bits(self):
        for shift_register, pattern, rng in examples(1201):
            n = len(shift_register.taps())
            for steps in (0, 1, 2, 3, 7, 8, 9, 50):
                many = sum(is_kept(pattern, n, place) for place in range(steps * n))
                self.assertEqual(fresh(self, kept_bits, shift_register, pattern, steps), many)
        self.assertEqual(kept_bits(Register(2, [7, 5]), [3, 1, 0], 4000), 2 * 1334 + 1333)

    def test_punctured(self):
        for shift_register, pattern, rng in examples(1202):
            n = len(shift_register.taps())
            for steps in (0, 1, 2, 5, 9, 20):
                for row in ([rng.choice((0, 1)) for _ in range(steps * n)], list(range(steps * n)),
                            [rng.choice((0, 1, None)) for _ in range(steps * n)]):
                    found = fresh(self, punctured, shift_register, pattern, row)
                    self.assertEqual(found, slow_punctured(pattern, n, row))
                    self.assertEqual(len(found), kept_bits(shift_register, pattern, steps))

    def test_opened(self):
        for shift_register, pattern, rng in examples(1203):
            n = len(shift_register.taps())
            for steps in (0, 1, 2, 5, 9, 20):
                sent = [rng.choice((0, 1, None)) for _ in range(kept_bits(shift_register, pattern, steps))]
                found = fresh(self, opened, shift_register, pattern, steps, sent)
                self.assertEqual(found, slow_opened(pattern, n, steps, sent))
                self.assertEqual(punctured(shift_register, pattern, found), sent)

    def test_known_pattern(self):
        shift_register = Register(2, [7, 5])
        # The tap 0 belongs to the bit 0 of a mask.
        self.assertEqual(punctured(shift_register, [3, 1, 2], list(range(10))), [0, 1, 2, 5, 6, 7, 8])
        self.assertEqual(opened(shift_register, [3, 1, 2], 5, [1] * 7), [1, 1, 1, None, None, 1, 1, 1, 1, None])
        self.assertEqual(kept_bits(shift_register, [3, 1, 2], 5), 7)

    def test_sizes_that_are_no_multiples(self):
        for shift_register, pattern, _ in examples(1204):
            n = len(shift_register.taps())
            for size in range(3 * n):
                if size % n != 0:
                    raises(self, "BadRow", size, punctured, shift_register, pattern, [0] * size)

    def test_sizes_of_what_was_sent(self):
        for shift_register, pattern, _ in examples(1205):
            for steps in (0, 1, 4, 9):
                kept = kept_bits(shift_register, pattern, steps)
                for size in (kept - 1, kept + 1, kept + 7, 0):
                    if size >= 0 and size != kept:
                        raises(self, "BadRow", size, opened, shift_register, pattern, steps, [0] * size)


class TestMending(unittest.TestCase):
    def test_against_all_messages(self):
        for shift_register, pattern, rng in examples(1206):
            n, v = len(shift_register.taps()), shift_register.memory()
            for count in (0, 1, 2, 5):
                kept = kept_bits(shift_register, pattern, count + v)
                row = sent_row(shift_register, pattern, [rng.randrange(2) for _ in range(count)])
                for received in (row, noisy(row, rng, 1, 1), [rng.choice((0, 1, None)) for _ in range(kept)]):
                    whole = slow_opened(pattern, n, count + v, received)
                    known = all_prices(shift_register, whole, count)
                    message, price, paper = fresh(self, mend_punctured, shift_register, pattern, count, received)
                    self.assertEqual((price, message), known[0])
                    self.assertTrue(check_path(shift_register, whole, message, price, paper))
                    if count > 0:
                        self.assertEqual(margin(shift_register, whole), known[1][0] - known[0][0])

    def test_other_sizes(self):
        for shift_register, pattern, _ in examples(1207):
            for count in (0, 1, 6):
                kept = kept_bits(shift_register, pattern, count + shift_register.memory())
                for size in (0, kept - 1, kept + 1, kept + 8):
                    if size >= 0 and size != kept:
                        raises(self, "BadRow", size, mend_punctured, shift_register, pattern, count, [None] * size)

    def test_longer_messages(self):
        rng = random.Random(1208)
        for taps, pattern in (([91, 121], [3, 1, 2]), ([53, 47], [3, 2]), ([53, 47, 35], [7, 1, 4, 2])):
            shift_register = Register(5, [tap % 64 for tap in taps])
            message = [rng.randrange(2) for _ in range(2000)]
            row = sent_row(shift_register, pattern, message)
            self.assertEqual(mend_punctured(shift_register, pattern, 2000, row)[1], 0)
            bound = punctured_bound(shift_register, pattern, 100)
            self.assertLess(0, bound)
            row = sent_row(shift_register, pattern, message[:100])
            received = noisy(row, rng, bound, 0)
            self.assertEqual(mend_punctured(shift_register, pattern, 100, received)[:2], (message[:100], bound))


class TestLeast(unittest.TestCase):
    def test_against_all_messages(self):
        weights = []
        for shift_register, pattern, _ in examples(1209):
            for count in (1, 2, 3, 5, 6):
                found = fresh(self, least_punctured, shift_register, pattern, count)
                self.assertIs(type(found), tuple)
                self.assertEqual(found, best_row(shift_register, pattern, count))
                weights.append(found[0])
        self.assertIn(0, weights)
        self.assertLess(3, max(weights))

    def test_all_kept(self):
        for shift_register in some_registers(1210, many=1):
            for pattern in ([2 ** len(shift_register.taps()) - 1], [2 ** len(shift_register.taps()) - 1] * 8):
                for count in (1, 7, 200):
                    self.assertEqual(least_punctured(shift_register, pattern, count), least_row(shift_register, count))

    def test_paper_is_accepted(self):
        for shift_register, pattern, _ in examples(1211):
            for count in (1, 2, 4, 9):
                weight, message = least_punctured(shift_register, pattern, count)
                paper = fresh(self, punctured_paper, shift_register, pattern, count)
                found = fresh(self, check_punctured, shift_register, pattern, count, weight, message, paper)
                self.assertIs(found, True)
                self.assertTrue(punctured_passes(shift_register, pattern, count, weight, message, paper))

    def test_great_counts(self):
        for shift_register, pattern, _ in examples(1212, many=1):
            weight, message = least_punctured(shift_register, pattern, 200)
            self.assertEqual((len(message), sum(sent_row(shift_register, pattern, message))), (200, weight))
            paper = punctured_paper(shift_register, pattern, 200)
            self.assertTrue(check_punctured(shift_register, pattern, 200, weight, message, paper))

    def test_bounds_and_breaking_turns(self):
        none = 0
        for shift_register, pattern, _ in examples(1213):
            for count in (1, 3, 5, 40):
                weight, message = least_punctured(shift_register, pattern, count)
                bound = fresh(self, punctured_bound, shift_register, pattern, count)
                found = fresh(self, breaking_punctured, shift_register, pattern, count)
                self.assertIs(type(found), tuple)
                row = sent_row(shift_register, pattern, message)
                if weight == 0:
                    self.assertEqual((bound, found), (None, (message, [])))
                    none += 1
                    continue
                self.assertEqual(bound, (weight - 1) // 2)
                places = [place for place, bit in enumerate(row) if bit == 1][:bound + 1]
                self.assertEqual(found, (message, places))
                received = [bit ^ (place in places) for place, bit in enumerate(row)]
                self.assertNotEqual(mend_punctured(shift_register, pattern, count, received)[0], message)
        self.assertLess(0, none)

    def test_whatever_is_turned_within_the_bound(self):
        for shift_register, pattern, count in (
            (Register(2, [7, 5]), [3, 1], 4), (Register(2, [7, 5, 7]), [7, 1, 0], 3), (Register(1, [3, 1]), [1, 3], 4),
            (Register(3, [15, 11]), [3, 2, 1], 3), (Register(1, [1, 2, 3]), [5, 7], 3),
        ):
            bound = punctured_bound(shift_register, pattern, count)
            self.assertIsNotNone(bound)
            for message in itertools.product((0, 1), repeat=count):
                row = sent_row(shift_register, pattern, list(message))
                for many in range(bound + 1):
                    for places in itertools.combinations(range(len(row)), many):
                        received = [bit ^ (place in places) for place, bit in enumerate(row)]
                        told = mend_punctured(shift_register, pattern, count, received)
                        self.assertEqual(told[:2], (list(message), many))


class TestCheck(unittest.TestCase):
    def assert_checked(self, *args):
        found = fresh(self, check_punctured, *args)
        self.assertIs(found, punctured_passes(*args))
        return found

    def examples(self, seed):
        rng = random.Random(seed)
        for shift_register, pattern in (
            (Register(1, [3, 1]), [3, 1]), (Register(2, [7, 5]), [3, 1, 2]), (Register(2, [7, 5, 3]), [4, 0, 7]),
            (Register(2, [3, 5]), [1, 1, 2]), (Register(3, [15, 11]), [3, 2]), (Register(2, [7, 5]), [0, 1]),
        ):
            count = rng.randrange(2, 5)
            weight, message = least_punctured(shift_register, pattern, count)
            yield shift_register, pattern, count, weight, message, punctured_paper(shift_register, pattern, count)

    def test_each_number_changed(self):
        told = {}
        for shift_register, pattern, count, weight, message, paper in self.examples(1214):
            for step in range(len(paper)):
                for state in range(len(paper[step])):
                    number = paper[step][state]
                    for other in (None, 0, weight, -(2 ** 40), 2 ** 40, (number or 0) + 1, (number or 0) - 1):
                        changed = [list(numbers) for numbers in paper]
                        changed[step][state] = other
                        found = self.assert_checked(shift_register, pattern, count, weight, message, changed)
                        told[found] = told.get(found, 0) + 1
                        if number is not None and (other is None or other > number):
                            self.assertFalse(found)
        self.assertLess(50, min(told[True], told[False]))

    def test_other_forms(self):
        for shift_register, pattern, count, weight, message, paper in self.examples(1215):
            others = [[], paper[1:], paper[:-1], paper + [paper[-1]], paper[::-1], [[None] * len(row) for row in paper]]
            for k in range(len(paper)):
                for numbers in ([], paper[k][:-1], paper[k] + [0], paper[k] + [None]):
                    others.append(paper[:k] + [numbers] + paper[k + 1:])
            for other in others:
                self.assertFalse(self.assert_checked(shift_register, pattern, count, weight, message, other))

    def test_other_messages_and_weights(self):
        for shift_register, pattern, count, weight, message, paper in self.examples(1216):
            for size in range(count + 2):
                for other in itertools.product((0, 1), repeat=size):
                    real = sum(sent_row(shift_register, pattern, list(other)))
                    for claim in (weight, real, weight - 1, weight + 1):
                        found = self.assert_checked(shift_register, pattern, count, claim, list(other), paper)
                        self.assertIs(found, size == count and 1 in other and real == claim == weight)
            for k in range(count):
                for bit in (2, -1, 3, 2 ** 40):
                    other = message[:k] + [bit] + message[k + 1:]
                    for claim in (weight, weight + 1, 0):
                        self.assertFalse(self.assert_checked(shift_register, pattern, count, claim, other, paper))

    def test_papers_that_are_moved(self):
        for shift_register, pattern, count, weight, message, paper in self.examples(1217):
            for step in (-1, 1):
                other = [[None if number is None else number + step for number in numbers] for numbers in paper]
                self.assertFalse(self.assert_checked(shift_register, pattern, count, weight, message, other))


class TestBadPatterns(unittest.TestCase):
    def calls(self, shift_register, pattern):
        return ((kept_bits, pattern, 3), (punctured, pattern, [0] * 5), (punctured, pattern, [0] * 12),
                (opened, pattern, 2, [0] * 99), (mend_punctured, pattern, 2, [0] * 99), (least_punctured, pattern, 2),
                (punctured_paper, pattern, 2), (check_punctured, pattern, 2, 0, [], []),
                (check_punctured, pattern, 2, 1, [0, 1], [[0]]), (punctured_bound, pattern, 2),
                (breaking_punctured, pattern, 2))

    def test_all_functions(self):
        far = 2 ** 40
        for shift_register in some_registers(1218, many=1):
            top = 2 ** len(shift_register.taps())
            for pattern, at in (
                ([], 0), ([1] * 9, 9), ([0] * 9, 9), ([-1] * 12, 12), ([top] * 9, 9), ([top], 0), ([-1], 0), ([1, top], 1),
                ([1, -1, top], 1), ([0, far], 1), ([0, 0, -far], 2), ([0], 1), ([0, 0], 2), ([0] * 8, 8),
                ([1] * 7 + [top], 7), ([0, top, 0], 1),
            ):
                for call, *args in self.calls(shift_register, pattern):
                    raises(self, "BadPattern", at, call, shift_register, *args)

    def test_good_ones(self):
        for shift_register in some_registers(1219, many=1):
            top = 2 ** len(shift_register.taps()) - 1
            for pattern in ([top], [1], [top] * 8, [0] * 7 + [1], [1] + [0] * 7):
                self.assertEqual(kept_bits(shift_register, pattern, 8), 8 // len(pattern) * sum(bin(m).count("1") for m in pattern))
