import itertools
import random
import unittest

from farhaul.registers.register import Register
from farhaul.tails.biting import (
    biting_bound, biting_margin, biting_paper, biting_row, breaking_biting, check_biting, check_least_biting,
    least_biting, mend_biting, start_state,
)
from reference import fresh, raises
from test_least import common_factor_registers
from test_paths import noisy
from test_register import some_registers


def registers(seed, many=1, memories=(1, 2, 3, 4, 5)):
    return some_registers(seed, many=many, memories=memories) + common_factor_registers()


def counts_for(shift_register, more=3):
    v = shift_register.memory()
    return range(v, v + more)


def around(shift_register, message):
    """The tail-biting row: the bit i of a tap stands for the input i steps ago, and the message goes around."""
    v, taps, size = shift_register.memory(), shift_register.taps(), len(message)
    return [sum((tap >> i & 1) * message[(t - i) % size] for i in range(v + 1)) % 2 for t in range(size) for tap in taps]


def slow_price(shift_register, received, message):
    row = around(shift_register, message)
    return sum(1 for bit, other in zip(row, received) if other in (0, 1) and other != bit)


def messages_of(count):
    return [list(message) for message in itertools.product((0, 1), repeat=count)]


def all_prices(shift_register, received, count):
    return sorted((slow_price(shift_register, received, message), message) for message in messages_of(count))


def cost(shift_register, received, step, state, bit):
    n = len(shift_register.taps())
    out = shift_register.out(state, bit)
    return sum(1 for e, f in zip(out, received[step * n:step * n + n]) if f is not None and e != f)


def biting_bounds(shift_register, received, count, paper):
    """Whether a biting paper is a bound from below (point 1207)."""
    states = 2 ** shift_register.memory()
    if len(paper) != states:
        return False
    for s, lists in enumerate(paper):
        if len(lists) != count + 1 or any(len(numbers) != states for numbers in lists):
            return False
        if lists[count][s] is None or lists[count][s] > 0:
            return False
        for step in range(count):
            for state in range(states):
                for bit in (0, 1):
                    behind = lists[step + 1][shift_register.next_state(state, bit)]
                    if behind is not None:
                        number = lists[step][state]
                        if number is None or number > behind + cost(shift_register, received, step, state, bit):
                            return False
    return True


def biting_passes(shift_register, received, message, claim, paper):
    """The check of point 1208, by its words."""
    n, v = len(shift_register.taps()), shift_register.memory()
    count = len(received) // n
    if len(received) % n != 0 or count < v:
        return False
    if not biting_bounds(shift_register, received, count, paper):
        return False
    if len(message) != count or any(bit not in (0, 1) for bit in message):
        return False
    if slow_price(shift_register, received, message) != claim:
        return False
    for s in range(2 ** v):
        state, before = s, 0
        for step, bit in enumerate(message):
            behind = paper[s][step + 1][shift_register.next_state(state, 1 - bit)]
            if behind is not None:
                total = before + cost(shift_register, received, step, state, 1 - bit) + behind
                if total < claim or (bit == 1 and total == claim):
                    return False
            before += cost(shift_register, received, step, state, bit)
            state = shift_register.next_state(state, bit)
    return True


def least_passes(shift_register, count, weight, message, paper):
    """The check of point 1209, by its words."""
    v = shift_register.memory()
    if count < v or count > 200:
        return False
    zeros = [0] * (count * len(shift_register.taps()))
    if not biting_bounds(shift_register, zeros, count, paper):
        return False
    if len(message) != count or any(bit not in (0, 1) for bit in message) or 1 not in message:
        return False
    if sum(around(shift_register, message)) != weight:
        return False
    for s in range(1, 2 ** v):
        if paper[s][0][s] is not None and paper[s][0][s] < weight:
            return False
    for step in range(count):
        behind = paper[0][step + 1][shift_register.next_state(0, 1)]
        if behind is not None and sum(shift_register.out(0, 1)) + behind < weight:
            return False
    return True


def rows_for(shift_register, count, rng, many=1):
    """Some received rows of any kind, all bits, all wiped, and rows near to tail-biting ones."""
    size = count * len(shift_register.taps())
    rows = [[None] * size, [0] * size, [1] * size]
    for _ in range(many):
        rows.append([rng.choice((0, 1)) for _ in range(size)])
        rows.append([rng.choice((0, 1, None)) for _ in range(size)])
        message = [rng.randrange(2) for _ in range(count)]
        rows.append(noisy(around(shift_register, message), rng, rng.randrange(3), rng.randrange(4)))
    return rows


def changed_papers(paper, numbers):
    """The papers with one number changed, as pairs of what was there and the paper."""
    for s in range(len(paper)):
        for step in range(len(paper[s])):
            for state in range(len(paper[s][step])):
                number = paper[s][step][state]
                for other in numbers + ((number or 0) + 1, (number or 0) - 1):
                    changed = [[list(row) for row in lists] for lists in paper]
                    changed[s][step][state] = other
                    yield number, other, changed


def other_forms(paper):
    """Papers of other forms."""
    yield from ([], paper[1:], paper[:-1], paper + [paper[-1]], paper[::-1], paper[1:] + paper[:1])
    for s, lists in enumerate(paper):
        others = [[], lists[1:], lists[:-1], lists + [lists[-1]], [lists[0]] + lists, [[None] * len(lists[0])] * len(lists)]
        for k in range(len(lists)):
            for numbers in ([], lists[k][:-1], lists[k] + [0], lists[k] + [None]):
                others.append(lists[:k] + [numbers] + lists[k + 1:])
        for other in others:
            yield paper[:s] + [other] + paper[s + 1:]


class TestRows(unittest.TestCase):
    def test_start_state(self):
        for shift_register in registers(1220):
            v = shift_register.memory()
            for count in counts_for(shift_register):
                for message in messages_of(count):
                    for state in (0, 2 ** v - 1):
                        self.assertEqual(start_state(shift_register, message), shift_register.run(state, message)[0])
            # The bit 0 of a state is the last input.
            self.assertEqual(start_state(shift_register, [0] * v + [1]), 1)
            self.assertEqual(start_state(shift_register, [1] + [0] * (v - 1)), 2 ** (v - 1))

    def test_rows(self):
        for shift_register in registers(1221):
            for count in counts_for(shift_register):
                for message in messages_of(count):
                    row = fresh(self, biting_row, shift_register, message)
                    self.assertEqual(row, around(shift_register, message))
                    state = start_state(shift_register, message)
                    self.assertEqual(shift_register.run(state, message), (state, row))

    def test_moved_around(self):
        rng = random.Random(1222)
        for shift_register in registers(1223):
            n = len(shift_register.taps())
            for count in (shift_register.memory(), 9, 20):
                message = [rng.randrange(2) for _ in range(count)]
                row = biting_row(shift_register, message)
                for k in range(count):
                    moved = message[k:] + message[:k]
                    self.assertEqual(biting_row(shift_register, moved), row[k * n:] + row[:k * n])

    def test_sums(self):
        rng = random.Random(1224)
        for shift_register in registers(1225):
            one, two = ([rng.randrange(2) for _ in range(12)] for _ in range(2))
            both = biting_row(shift_register, [e ^ f for e, f in zip(one, two)])
            self.assertEqual(both, [e ^ f for e, f in zip(biting_row(shift_register, one), biting_row(shift_register, two))])

    def test_long_messages(self):
        rng = random.Random(1226)
        shift_register = Register(5, [53, 47])
        message = [rng.randrange(2) for _ in range(2000)]
        self.assertEqual(biting_row(shift_register, message), around(shift_register, message))

    def test_too_few_bits(self):
        for shift_register in registers(1227):
            for size in range(shift_register.memory()):
                raises(self, "BadRow", size, start_state, shift_register, [1] * size)
                raises(self, "BadRow", size, biting_row, shift_register, [1] * size)


class TestMending(unittest.TestCase):
    def test_against_all_messages(self):
        rng = random.Random(1228)
        for shift_register in registers(1229):
            for count in counts_for(shift_register):
                for received in rows_for(shift_register, count, rng):
                    known = all_prices(shift_register, received, count)
                    found = fresh(self, mend_biting, shift_register, received)
                    self.assertIs(type(found), tuple)
                    message, claim, paper = found
                    self.assertEqual((claim, message), known[0])
                    self.assertEqual(fresh(self, biting_margin, shift_register, received), known[1][0] - known[0][0])
                    self.assertIs(check_biting(shift_register, received, message, claim, paper), True)
                    self.assertTrue(biting_passes(shift_register, received, message, claim, paper))

    def test_every_small_row(self):
        for shift_register, count in ((Register(1, [3, 1]), 1), (Register(1, [3, 1]), 3), (Register(2, [7, 5]), 3),
                                      (Register(1, [3, 3]), 3), (Register(2, [3, 5]), 2)):
            for received in itertools.product((0, 1, None), repeat=count * 2):
                known = all_prices(shift_register, list(received), count)
                self.assertEqual(mend_biting(shift_register, list(received))[:2], known[0][::-1])
                self.assertEqual(biting_margin(shift_register, list(received)), known[1][0] - known[0][0])

    def test_long_rows(self):
        rng = random.Random(1230)
        for shift_register, count in ((Register(5, [53, 47, 35, 61]), 300), (Register(3, [15, 11]), 2000)):
            message = [rng.randrange(2) for _ in range(count)]
            received = noisy(biting_row(shift_register, message), rng, 5, 20)
            told, claim, paper = mend_biting(shift_register, received)
            self.assertLessEqual(claim, 5)
            self.assertEqual(slow_price(shift_register, received, told), claim)
            self.assertTrue(check_biting(shift_register, received, told, claim, paper))
            self.assertLessEqual(0, biting_margin(shift_register, received))

    def test_sizes_of_rows(self):
        for shift_register in registers(1231):
            n, v = len(shift_register.taps()), shift_register.memory()
            for size in range((v + 2) * n):
                if size % n != 0 or size // n < v:
                    raises(self, "BadRow", size, mend_biting, shift_register, [0] * size)
                    raises(self, "BadRow", size, biting_margin, shift_register, [None] * size)
                    papers = [[[0] * 2 ** v] * (size // n + 1)] * 2 ** v
                    for paper in ([], papers):
                        found = fresh(self, check_biting, shift_register, [0] * size, [0] * (size // n), 0, paper)
                        self.assertIs(found, False)

    def test_margin_of_rows(self):
        # A row differs from the next ones in as many places as the least row has bits 1.
        rng = random.Random(1232)
        for shift_register in registers(1233):
            for count in (shift_register.memory(), 7, 30):
                row = biting_row(shift_register, [rng.randrange(2) for _ in range(count)])
                self.assertEqual(biting_margin(shift_register, row), least_biting(shift_register, count)[0])


class TestCheck(unittest.TestCase):
    def assert_checked(self, *args):
        found = fresh(self, check_biting, *args)
        self.assertIs(found, biting_passes(*args))
        return found

    def examples(self, seed, more=2):
        rng = random.Random(seed)
        for shift_register in (Register(1, [3, 1]), Register(1, [3, 3]), Register(2, [7, 5]), Register(2, [3, 5, 6]),
                               Register(2, [7, 0])):
            for count in counts_for(shift_register, more):
                for received in rows_for(shift_register, count, rng)[3:]:
                    yield (shift_register, received) + mend_biting(shift_register, received)

    def test_other_messages_and_prices(self):
        for shift_register, received, message, claim, paper in self.examples(1234):
            for size in range(len(message) + 2):
                for other in messages_of(size):
                    claims = [claim, claim + 1, claim - 1]
                    if size == len(message):
                        claims.append(slow_price(shift_register, received, other))
                    for number in claims:
                        found = self.assert_checked(shift_register, received, other, number, paper)
                        self.assertIs(found, (other, number) == (message, claim))
            for k in range(len(message)):
                for bit in (2, -1, 3, 2 ** 40):
                    other = message[:k] + [bit] + message[k + 1:]
                    self.assertFalse(self.assert_checked(shift_register, received, other, claim, paper))

    def test_each_number_changed(self):
        told = {}
        for shift_register, received, message, claim, paper in self.examples(1235, more=1):
            for number, other, changed in changed_papers(paper, (None, 0, claim, -(2 ** 40), 2 ** 40)):
                found = self.assert_checked(shift_register, received, message, claim, changed)
                told[found] = told.get(found, 0) + 1
                if number is not None and (other is None or other > number):
                    self.assertFalse(found)
        self.assertLess(50, min(told[True], told[False]))

    def test_other_forms(self):
        for shift_register, received, message, claim, paper in self.examples(1236):
            for other in other_forms(paper):
                self.assertFalse(self.assert_checked(shift_register, received, message, claim, other))

    def test_papers_that_are_moved(self):
        for shift_register, received, message, claim, paper in self.examples(1237):
            for step in (-2, -1, 1):
                other = [[[None if e is None else e + step for e in numbers] for numbers in lists] for lists in paper]
                self.assert_checked(shift_register, received, message, claim, other)

    def test_papers_for_other_rows(self):
        rng = random.Random(1238)
        for shift_register, received, message, claim, paper in self.examples(1239):
            for other in rows_for(shift_register, len(message), rng):
                theirs = mend_biting(shift_register, other)[2]
                self.assert_checked(shift_register, received, message, claim, theirs)


class TestLeast(unittest.TestCase):
    def best_row(self, shift_register, count):
        return min((sum(around(shift_register, message)), message) for message in messages_of(count) if any(message))

    def test_against_all_messages(self):
        weights = []
        for shift_register in registers(1240, many=2):
            for count in counts_for(shift_register, 5):
                found = fresh(self, least_biting, shift_register, count)
                self.assertIs(type(found), tuple)
                self.assertEqual(found, self.best_row(shift_register, count))
                weights.append(found[0])
        self.assertIn(0, weights)
        self.assertLess(3, max(weights))

    def test_paper_is_accepted(self):
        for shift_register in registers(1241):
            for count in counts_for(shift_register, 4):
                weight, message = least_biting(shift_register, count)
                paper = fresh(self, biting_paper, shift_register, count)
                self.assertIs(check_least_biting(shift_register, count, weight, message, paper), True)
                self.assertTrue(least_passes(shift_register, count, weight, message, paper))

    def test_great_counts(self):
        for shift_register in registers(1242):
            weight, message = least_biting(shift_register, 200)
            self.assertEqual((len(message), sum(around(shift_register, message))), (200, weight))
            paper = biting_paper(shift_register, 200)
            self.assertTrue(check_least_biting(shift_register, 200, weight, message, paper))

    def test_bounds_and_breaking_turns(self):
        none = 0
        for shift_register in registers(1243):
            for count in (shift_register.memory(), 6, 7, 40):
                weight, message = least_biting(shift_register, count)
                bound = fresh(self, biting_bound, shift_register, count)
                found = fresh(self, breaking_biting, shift_register, count)
                self.assertIs(type(found), tuple)
                if weight == 0:
                    self.assertEqual((bound, found), (None, (message, [])))
                    none += 1
                    continue
                row = biting_row(shift_register, message)
                self.assertEqual(bound, (weight - 1) // 2)
                places = [place for place, bit in enumerate(row) if bit == 1][:bound + 1]
                self.assertEqual(found, (message, places))
                received = [bit ^ (place in places) for place, bit in enumerate(row)]
                self.assertNotEqual(mend_biting(shift_register, received)[0], message)
        self.assertLess(0, none)

    def test_whatever_is_turned_within_the_bound(self):
        for shift_register, count in ((Register(2, [7, 5]), 5), (Register(2, [7, 5, 3]), 4), (Register(1, [3, 1]), 4),
                                      (Register(3, [15, 11]), 4)):
            bound = biting_bound(shift_register, count)
            for message in messages_of(count):
                row = biting_row(shift_register, message)
                for many in range(bound + 1):
                    for places in itertools.combinations(range(len(row)), many):
                        received = [bit ^ (place in places) for place, bit in enumerate(row)]
                        self.assertEqual(mend_biting(shift_register, received)[:2], (message, many))

    def test_counts_out_of_range(self):
        for shift_register in registers(1244):
            v = shift_register.memory()
            for count in (v - 1, 0, -1, 201, 202, 2 ** 40, -(2 ** 40)):
                for call in (least_biting, biting_paper, biting_bound, breaking_biting):
                    raises(self, "OutOfRange", count, call, shift_register, count)
                for message, paper in (([], []), ([1] * max(0, min(count, 300)), [[[0] * 2 ** v] * 2] * 2 ** v)):
                    found = fresh(self, check_least_biting, shift_register, count, 1, message, paper)
                    self.assertIs(found, False)

    def test_a_true_paper_for_a_count_out_of_range(self):
        shift_register = Register(1, [3, 1])
        weight, message = least_biting(shift_register, 200)
        paper = [[lists[0]] + lists for lists in biting_paper(shift_register, 200)]
        self.assertFalse(check_least_biting(shift_register, 201, weight, message + [0], paper))


class TestLeastCheck(unittest.TestCase):
    def assert_checked(self, *args):
        found = fresh(self, check_least_biting, *args)
        self.assertIs(found, least_passes(*args))
        return found

    def examples(self, more=2):
        for shift_register in (Register(1, [3, 1]), Register(1, [3, 3]), Register(2, [7, 5]), Register(2, [3, 5, 6]),
                               Register(2, [7, 0]), Register(2, [3, 5])):
            for count in counts_for(shift_register, more):
                yield (shift_register, count) + least_biting(shift_register, count) + (biting_paper(shift_register, count),)

    def test_other_messages_and_weights(self):
        for shift_register, count, weight, message, paper in self.examples(more=3):
            for size in range(count + 2):
                for other in messages_of(size):
                    real = sum(around(shift_register, other)) if size >= shift_register.memory() else weight
                    for claim in (weight, real, weight - 1, weight + 1):
                        found = self.assert_checked(shift_register, count, claim, other, paper)
                        self.assertIs(found, size == count and 1 in other and real == claim == weight)
            for k in range(count):
                for bit in (2, -1, 3, 2 ** 40):
                    other = message[:k] + [bit] + message[k + 1:]
                    for claim in (weight, weight + 1, 0):
                        self.assertFalse(self.assert_checked(shift_register, count, claim, other, paper))

    def test_each_number_changed(self):
        told = {}
        for shift_register, count, weight, message, paper in self.examples():
            for number, other, changed in changed_papers(paper, (None, 0, weight, -(2 ** 40), 2 ** 40)):
                found = self.assert_checked(shift_register, count, weight, message, changed)
                told[found] = told.get(found, 0) + 1
                if number is not None and (other is None or other > number):
                    self.assertFalse(found)
        self.assertLess(50, min(told[True], told[False]))

    def test_other_forms(self):
        for shift_register, count, weight, message, paper in self.examples():
            for other in other_forms(paper):
                self.assertFalse(self.assert_checked(shift_register, count, weight, message, other))

    def test_papers_that_are_moved(self):
        for shift_register, count, weight, message, paper in self.examples():
            for step in (-1, 1):
                other = [[[None if e is None else e + step for e in numbers] for numbers in lists] for lists in paper]
                self.assertFalse(self.assert_checked(shift_register, count, weight, message, other))
