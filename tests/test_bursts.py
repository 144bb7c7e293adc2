import itertools
import random
import unittest

from farhaul.bounds.bursts import breaking_burst, burst_bound, symbols_touched
from farhaul.links.contents import payload
from farhaul.links.payloads import read_payload
from links import plain_plans, plan_of, register_plans, some_data
from reference import fresh, raises


def turned(bits, places):
    return [1 - bit if k in places else bit for k, bit in enumerate(bits)]


class TestBounds(unittest.TestCase):
    def test_formulas(self):
        for plan in plain_plans():
            m, h = plan.code.field.bits(), plan.code.checks // 2
            bound = 0 if h == 0 else (plan.depth * h - 1) * m + 1
            self.assertEqual(burst_bound(plan), bound)
            found = fresh(self, breaking_burst, plan)
            self.assertIs(type(found), tuple)
            self.assertEqual(found, (0 if h == 0 else m - 1, bound + 1))

    def test_with_a_register(self):
        for plan in register_plans():
            raises(self, "HasRegister", 0, burst_bound, plan)
            raises(self, "HasRegister", 0, breaking_burst, plan)

    def small_plans(self):
        return [plan_of(4, 15, 4, 1), plan_of(4, 11, 1, 1), plan_of(3, 7, 3, 4), plan_of(3, 7, 2, 3), plan_of(2, 3, 1, 10),
                plan_of(3, 7, 5, 7), plan_of(5, 12, 3, 1), plan_of(6, 9, 2, 1), plan_of(8, 7, 2, 1), plan_of(3, 7, 4, 5)]

    def test_every_burst_of_the_bound(self):
        rng = random.Random(901)
        for plan in self.small_plans():
            number, data = rng.randrange(65536), some_data(plan, rng)
            bits, bound = payload(plan, number, data), burst_bound(plan)
            for first in range(len(bits) - bound + 1):
                burst = range(first, first + bound)
                lists = [list(burst), [k for k in burst if rng.randrange(2)], burst[:1], burst[-1:]]
                for places in lists:
                    told = read_payload(plan, turned(bits, places))
                    self.assertIsNotNone(told)
                    self.assertEqual(told[:2], (number, data))

    def test_whatever_bits_are_turned(self):
        rng = random.Random(902)
        for plan in (plan_of(4, 15, 4, 1), plan_of(8, 7, 2, 1), plan_of(5, 12, 3, 1)):
            number, data = rng.randrange(65536), some_data(plan, rng)
            bits, bound = payload(plan, number, data), burst_bound(plan)
            self.assertLessEqual(bound, 5)
            for first in range(len(bits) - bound + 1):
                for choice in itertools.product((0, 1), repeat=bound):
                    told = read_payload(plan, turned(bits, [first + k for k in range(bound) if choice[k]]))
                    self.assertEqual(told[:2], (number, data))

    def test_breaking_burst(self):
        rng = random.Random(903)
        for plan in plain_plans() + self.small_plans():
            first, size = breaking_burst(plan)
            self.assertEqual(size, burst_bound(plan) + 1)
            self.assertLessEqual(first + size, plan.payload_bits())
            for _ in range(3):
                number, data = rng.randrange(65536), some_data(plan, rng)
                told = read_payload(plan, turned(payload(plan, number, data), range(first, first + size)))
                if told is not None:
                    self.assertNotEqual(told[:2], (number, data))

    def test_bound_0(self):
        for plan in (plan_of(4, 11, 1, 1), plan_of(2, 3, 1, 10), plan_of(4, 12, 1, 1)):
            self.assertEqual((burst_bound(plan), breaking_burst(plan)), (0, (0, 1)))


class TestSymbols(unittest.TestCase):
    def test_against_counting(self):
        for m in range(2, 9):
            for first in range(30):
                for bits in range(1, 40):
                    symbols = sorted({k // m for k in range(first, first + bits)})
                    found = fresh(self, symbols_touched, m, first, bits)
                    self.assertEqual(found, (symbols[0], len(symbols)))
                    self.assertIs(type(found), tuple)
                    self.assertLessEqual(found[1], (bits + m - 2) // m + 1)
                greatest = max(symbols_touched(m, k, first + 1)[1] for k in range(m))
                self.assertEqual(greatest, (first + 1 + m - 2) // m + 1)

    def test_great_numbers(self):
        self.assertEqual(symbols_touched(8, 2 ** 32 - 1, 2 ** 32 - 1), (2 ** 29 - 1, 2 ** 29 + 1))
        self.assertEqual(symbols_touched(3, 2 ** 32 - 1, 1), ((2 ** 32 - 1) // 3, 1))
