import itertools
import random
import unittest

from farhaul.paths.mending import check_path, margin, mend, price
from farhaul.registers.register import Register
from reference import bounds_rows, fresh, raises
from test_least import common_factor_registers
from test_register import slow_row, some_registers


def noisy(row, rng, turned, wiped):
    """A row of which so many places are turned and so many others wiped."""
    places = rng.sample(range(len(row)), min(len(row), turned + wiped))
    received = list(row)
    for k, place in enumerate(places):
        received[place] = 1 - row[place] if k < turned else None
    return received


def rows_for(shift_register, count, rng, many=3):
    """Some received rows of any kind, all bits, all wiped, and rows near to ended rows."""
    size = (count + shift_register.memory()) * len(shift_register.taps())
    rows = [[None] * size, [0] * size, [1] * size]
    for _ in range(many):
        rows.append([rng.choice((0, 1)) for _ in range(size)])
        rows.append([rng.choice((0, 1, None)) for _ in range(size)])
        message = [rng.randrange(2) for _ in range(count)]
        rows.append(noisy(shift_register.ended_row(message), rng, rng.randrange(3), rng.randrange(4)))
    return rows


def slow_price(shift_register, received, message):
    row = slow_row(shift_register.memory(), shift_register.taps(), message)
    return sum(1 for bit, other in zip(row, received) if other in (0, 1) and other != bit)


def all_prices(shift_register, received, count):
    """The pairs of price and message, in the order in which they are told."""
    messages = [list(message) for message in itertools.product((0, 1), repeat=count)]
    return sorted((slow_price(shift_register, received, message), message) for message in messages)


def path_passes(shift_register, received, message, claim, paper):
    """The check of point 503, by its words."""
    v, n = shift_register.memory(), len(shift_register.taps())
    count = len(received) // n - v
    if len(received) % n != 0 or count < 0:
        return False

    def cost(step, state, bit):
        out = shift_register.out(state, bit)
        return sum(1 for e, f in zip(out, received[step * n:step * n + n]) if f is not None and e != f)

    if not bounds_rows(shift_register, count, cost, paper):
        return False
    if len(message) != count or any(bit not in (0, 1) for bit in message):
        return False
    if slow_price(shift_register, received, message) != claim:
        return False
    state, before = 0, 0
    for step, bit in enumerate(message):
        behind = paper[step + 1][shift_register.next_state(state, 1 - bit)]
        if behind is not None:
            total = before + cost(step, state, 1 - bit) + behind
            if (bit == 1 and total <= claim) or (bit == 0 and total < claim):
                return False
        before += cost(step, state, bit)
        state = shift_register.next_state(state, bit)
    return True


class TestMending(unittest.TestCase):
    def test_against_all_messages(self):
        rng = random.Random(201)
        for shift_register in some_registers(202, many=1) + common_factor_registers():
            for count in range(7):
                for received in rows_for(shift_register, count, rng, many=1):
                    known = all_prices(shift_register, received, count)
                    found = fresh(self, mend, shift_register, received)
                    self.assertIs(type(found), tuple)
                    message, least, paper = found
                    self.assertEqual((least, message), known[0])
                    self.assertEqual(fresh(self, price, shift_register, received, message), least)
                    gap = fresh(self, margin, shift_register, received)
                    self.assertEqual(gap, known[1][0] - known[0][0] if count else None)
                    self.assertIs(fresh(self, check_path, shift_register, received, message, least, paper), True)
                    self.assertTrue(path_passes(shift_register, received, message, least, paper))

    def test_price(self):
        rng = random.Random(203)
        for shift_register in some_registers(204, many=1):
            for count in range(6):
                for received in rows_for(shift_register, count, rng, many=1):
                    for message in itertools.product((0, 1), repeat=count):
                        known = slow_price(shift_register, received, list(message))
                        self.assertEqual(price(shift_register, received, list(message)), known)

    def test_first_one_of_several(self):
        shift_register = Register(2, [7, 5])
        self.assertEqual(mend(shift_register, [None] * 12)[:2], ([0, 0, 0, 0], 0))
        self.assertEqual(margin(shift_register, [None] * 12), 0)
        # [0, 1, 0] and [1, 0, 0] differ in six places; in the middle of both the first one is told.
        one, two = shift_register.ended_row([0, 1, 0]), shift_register.ended_row([1, 0, 0])
        places = [k for k in range(10) if one[k] != two[k]]
        middle = [bit if k in places[:len(places) // 2] else other for k, (bit, other) in enumerate(zip(one, two))]
        self.assertEqual(mend(shift_register, middle)[:2], ([0, 1, 0], len(places) // 2))
        self.assertEqual(margin(shift_register, middle), 0)

    def test_nothing_but_the_end(self):
        for shift_register in some_registers(205, many=1):
            size = shift_register.memory() * len(shift_register.taps())
            for received in ([0] * size, [1] * size, [None] * size):
                message, least, paper = mend(shift_register, received)
                self.assertEqual((message, least), ([], received.count(1)))
                self.assertEqual(len(paper), shift_register.memory() + 1)
                self.assertIsNone(margin(shift_register, received))
                self.assertTrue(check_path(shift_register, received, message, least, paper))
                self.assertFalse(check_path(shift_register, received, [0], least, paper))
                self.assertFalse(check_path(shift_register, received, message, least + 1, paper))

    def test_rows_of_wrong_sizes(self):
        for shift_register in some_registers(206, many=1):
            v, n = shift_register.memory(), len(shift_register.taps())
            paper = mend(shift_register, [0] * (v * n + n))[2]
            for size in range((v + 3) * n):
                if size < v * n or size % n != 0:
                    for bit in (0, None):
                        raises(self, "BadRow", size, mend, shift_register, [bit] * size)
                        raises(self, "BadRow", size, margin, shift_register, [bit] * size)
                        found = fresh(self, check_path, shift_register, [bit] * size, [0], 0, paper)
                        self.assertIs(found, False)
                        self.assertIs(check_path(shift_register, [bit] * size, [], 0, []), False)

    def test_few_turned_bits_are_mended(self):
        rng = random.Random(207)
        shift_register = Register(2, [7, 5])
        for _ in range(20):
            message = [rng.randrange(2) for _ in range(40)]
            row = shift_register.ended_row(message)
            # The free distance is 5: two turned bits, or one turned and two wiped ones.
            for turned, wiped in ((2, 0), (1, 2), (0, 4)):
                received = noisy(row, rng, turned, wiped)
                self.assertEqual(mend(shift_register, received)[:2], (message, turned))
                self.assertLess(0, margin(shift_register, received))

    def test_long_rows(self):
        rng = random.Random(208)
        for v, taps in ((5, [53, 47]), (2, [7, 5, 7, 7]), (1, [3, 1])):
            shift_register = Register(v, taps)
            count = 20000 // len(taps) - v
            message = [rng.randrange(2) for _ in range(count)]
            received = shift_register.ended_row(message)
            for k in range(17, len(received), 200):
                received[k] ^= 1
            told, least, paper = mend(shift_register, received)
            self.assertEqual((told, least), (message, len(range(17, len(received), 200))))
            self.assertLess(0, margin(shift_register, received))
            self.assertTrue(check_path(shift_register, received, told, least, paper))
            told[count // 2] ^= 1
            self.assertFalse(check_path(shift_register, received, told, least, paper))

    def test_results_are_not_shared(self):
        shift_register = Register(2, [7, 5])
        message, _, paper = mend(shift_register, [0] * 12)
        paper[3][0] = 77
        message.append(1)
        self.assertEqual(sum(1 for numbers in paper if numbers[0] == 77), 1)
        self.assertEqual(mend(shift_register, [0] * 12)[0], [0] * 4)


class TestCheck(unittest.TestCase):
    def assert_checked(self, shift_register, received, message, claim, paper):
        found = fresh(self, check_path, shift_register, received, message, claim, paper)
        self.assertIs(found, path_passes(shift_register, received, message, claim, paper))
        return found

    def cases(self, seed, count):
        rng = random.Random(seed)
        for shift_register in some_registers(seed, many=1, memories=(1, 2, 3)) + common_factor_registers()[:4]:
            for received in rows_for(shift_register, count, rng, many=1)[1:]:
                yield (shift_register, received) + mend(shift_register, received)

    def test_papers_of_another_form(self):
        for shift_register, received, message, least, paper in self.cases(211, 3):
            others = [[], paper[1:], paper[:-1], paper + [paper[-1]], [paper[0]] + paper]
            for k in range(len(paper)):
                for numbers in ([], paper[k][:-1], paper[k] + [0], paper[k] + [None]):
                    others.append(paper[:k] + [numbers] + paper[k + 1:])
            for other in others:
                self.assertFalse(self.assert_checked(shift_register, received, message, least, other))

    def test_each_number_changed(self):
        for shift_register, received, message, least, paper in self.cases(212, 3):
            told = 0
            for step in range(len(paper)):
                for state in range(len(paper[step])):
                    number = paper[step][state]
                    changes = [None, 0, -1, -(2 ** 40), 2 ** 40]
                    if number is not None:
                        changes += [number + 1, number - 1]
                    for change in changes:
                        other = [list(numbers) for numbers in paper]
                        other[step][state] = change
                        found = self.assert_checked(shift_register, received, message, least, other)
                        told += found
                        if number is not None and change in (None, number + 1):
                            self.assertFalse(found)
            self.assertLess(0, told)

    def test_other_prices(self):
        for shift_register, received, message, least, paper in self.cases(213, 4):
            for claim in (least + 1, least - 1, -least - 1, 2 ** 40, -(2 ** 40)):
                self.assertFalse(self.assert_checked(shift_register, received, message, claim, paper))

    def test_other_messages(self):
        for shift_register, received, message, least, paper in self.cases(214, 4):
            for size in range(7):
                for other in itertools.product((0, 1), repeat=size):
                    claims = [least]
                    if size == 4:
                        claims.append(slow_price(shift_register, received, list(other)))
                    for claim in claims:
                        found = self.assert_checked(shift_register, received, list(other), claim, paper)
                        self.assertIs(found, list(other) == message and claim == least)
            for wrong in (2, -1, 3, 2 ** 40):
                for k in range(4):
                    other = message[:k] + [wrong] + message[k + 1:]
                    self.assertFalse(check_path(shift_register, received, other, least, paper))

    def test_only_the_first_one_of_several(self):
        # All messages have the price 0 here, and all numbers of the paper are 0.
        shift_register = Register(2, [7, 5])
        paper = mend(shift_register, [None] * 12)[2]
        for message in itertools.product((0, 1), repeat=4):
            found = self.assert_checked(shift_register, [None] * 12, list(message), 0, paper)
            self.assertIs(found, not any(message))

    def test_lower_papers(self):
        for shift_register, received, message, least, paper in self.cases(215, 3):
            lower = [[None if number is None else number - 1 for number in numbers] for numbers in paper]
            self.assert_checked(shift_register, received, message, least, lower)
            first = [[number - 5 for number in paper[0] if number is not None]] + paper[1:]
            if None not in paper[0]:
                self.assertTrue(self.assert_checked(shift_register, received, message, least, first))

    def test_papers_without_numbers(self):
        # None in a paper is no claim, but the states that lead to numbers need their own.
        shift_register = Register(2, [7, 5])
        for other in itertools.product((0, 1), repeat=2):
            claim = slow_price(shift_register, [0] * 8, list(other))
            self.assertFalse(self.assert_checked(shift_register, [0] * 8, list(other), claim, [[None] * 4] * 5))
            self.assertFalse(self.assert_checked(shift_register, [0] * 8, list(other), claim, [[9] * 4] * 5))

    def test_other_rows(self):
        for shift_register, received, message, least, paper in self.cases(216, 3):
            for k in range(len(received)):
                for bit in (0, 1, None):
                    other = received[:k] + [bit] + received[k + 1:]
                    self.assert_checked(shift_register, other, message, least, paper)
            n = len(shift_register.taps())
            for other in (received[n:], received + [0] * n, received[1:], received + [None], []):
                self.assertFalse(self.assert_checked(shift_register, other, message, least, paper))
