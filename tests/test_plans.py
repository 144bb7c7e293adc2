import random
import unittest

from farhaul.fields.field import Field
from farhaul.links.contents import content, core, payload, read_content
from farhaul.links.plans import Plan
from farhaul.registers.register import Register
from farhaul.rootcodes.code import RootCode
from links import (
    MARK, is_core_of, plain_plans, plan_of, register_plans, room_of, slow_bits, slow_content, slow_payload, slow_told,
    some_data,
)
from reference import MODULI, fresh, raises


def code_of(m, n, checks):
    return RootCode(Field(m, MODULI[m][0]), n, 0, checks)


class TestPlan(unittest.TestCase):
    def test_attributes(self):
        code, shift_register, mark = code_of(4, 15, 4), Register(2, [7, 5]), [1, 0, 1]
        plan = Plan(code, 3, shift_register, mark, 7)
        self.assertIs(plan.code, code)
        self.assertIs(plan.shift_register, shift_register)
        self.assertEqual((plan.depth, plan.mark, plan.tolerance), (3, [1, 0, 1], 7))
        mark[0] = 0
        mark.append(1)
        self.assertEqual(plan.mark, [1, 0, 1])
        plan.mark.append(0)
        self.assertEqual(mark, [0, 0, 1, 1])
        self.assertIsNone(Plan(code, 1, None, mark, 0).shift_register)

    def test_numbers(self):
        for plan in plain_plans() + register_plans():
            m, n, checks = plan.code.field.bits(), plan.code.n, plan.code.checks
            self.assertEqual(plan.room(), plan.depth * (n - checks) * m)
            self.assertEqual(plan.most_bytes(), (plan.room() - 32) // 8)
            self.assertEqual(plan.core_bits(), plan.depth * n * m)
            known = plan.core_bits()
            if plan.shift_register is not None:
                known = (known + plan.shift_register.memory()) * len(plan.shift_register.taps())
            self.assertEqual(plan.payload_bits(), known)

    def test_depth(self):
        code = code_of(8, 255, 1)
        for depth in (0, -1, 17, 18, 2 ** 40, -(2 ** 40)):
            for mark in ([1], [], [1] * 33):
                raises(self, "OutOfRange", 0, Plan, code, depth, None, mark, 0)
                raises(self, "OutOfRange", 0, Plan, code_of(2, 2, 1), depth, None, mark, 0)
        for depth in (1, 16):
            self.assertEqual(Plan(code_of(8, 20, 5), depth, None, [1], 0).depth, depth)

    def test_mark(self):
        for size in (0, 33, 100):
            for code in (code_of(8, 255, 1), code_of(2, 2, 1), code_of(8, 20, 5)):
                raises(self, "WrongSize", 0, Plan, code, 16, None, [1] * size, 0)
        for size in (1, 32):
            for bit in (0, 1):
                self.assertEqual(Plan(code_of(8, 20, 5), 2, None, [bit] * size, 99).mark, [bit] * size)

    def test_room(self):
        for m, n, checks, depth, room in ((3, 2, 1, 13, 39), (2, 2, 1, 16, 32), (4, 10, 1, 1, 36), (8, 5, 1, 1, 32),
                                          (8, 255, 254, 4, 32), (7, 6, 1, 1, 35), (3, 7, 6, 13, 39), (2, 2, 1, 1, 2)):
            raises(self, "TooSmall", room, Plan, code_of(m, n, checks), depth, None, [1], 0)
            # Here the payload would be too large, too.
            raises(self, "TooSmall", room, Plan, code_of(m, n, checks), depth, Register(5, [1, 2, 3, 4]), [1], 0)
        for m, n, checks, depth in ((4, 11, 1, 1), (8, 6, 1, 1), (5, 9, 1, 1), (2, 3, 1, 10), (8, 255, 254, 5)):
            plan = Plan(code_of(m, n, checks), depth, None, [1], 0)
            self.assertEqual(plan.most_bytes(), (plan.room() - 32) // 8)
            self.assertEqual(plan.room() // 4 * 4, 40)

    def test_size_of_a_payload(self):
        self.assertEqual(Plan(code_of(8, 250, 20), 10, None, [1], 0).payload_bits(), 20000)
        self.assertEqual(Plan(code_of(7, 119, 20), 12, Register(4, [19, 29]), [1], 0).payload_bits(), 20000)
        for m, n, depth, shift_register, size in (
            (8, 251, 10, None, 20080), (8, 119, 7, Register(3, [1, 3, 2]), 20001), (8, 255, 16, None, 32640), (7, 119, 12, Register(5, [19, 29]), 20002),
            (7, 119, 12, Register(1, [1, 3, 2]), 29991), (8, 250, 10, Register(1, [1, 3]), 40002),
        ):
            raises(self, "TooLarge", size, Plan, code_of(m, n, 20), depth, shift_register, [1], 0)


class TestContents(unittest.TestCase):
    def test_content(self):
        rng = random.Random(701)
        for plan in plain_plans() + register_plans():
            for size in range(0, plan.most_bytes() + 1, 1 + plan.most_bytes() // 9):
                for number in (0, 1, 255, 256, 32768, 65535, rng.randrange(65536)):
                    data = some_data(plan, rng, size)
                    bits = fresh(self, content, plan, number, data)
                    self.assertEqual(bits, slow_content(plan, number, data))
                    self.assertEqual(len(bits), plan.room())
                    found = fresh(self, read_content, plan, bits)
                    self.assertIs(type(found), tuple)
                    self.assertEqual(found, (number, data))

    def test_data_of_every_size(self):
        rng = random.Random(702)
        for plan in plain_plans():
            for size in range(plan.most_bytes() + 1):
                data = some_data(plan, rng, size)
                self.assertEqual(read_content(plan, content(plan, 65535 - size, data)), (65535 - size, data))

    def test_known_content(self):
        known = [1, 1] + [0] * 14 + [1] + [0] * 15 + [1, 0, 1, 0, 0, 0, 0, 0] + [0] * 4
        self.assertEqual(content(plan_of(4, 15, 4, 1), 3, [5]), known)

    def test_wrong_content(self):
        for plan in plain_plans()[:6] + register_plans()[:2]:
            most = plan.most_bytes()
            for call in (content, payload):
                for number in (-1, 65536, 2 ** 40, -(2 ** 40)):
                    for data in ([], [0] * (most + 1), [256], [-1] * (most + 5)):
                        raises(self, "OutOfRange", 0, call, plan, number, data)
                for number in (0, 65535):
                    for data in ([0] * (most + 1), [-1] * (most + 1), [256] * (most + 9), [0] * (most + 100)):
                        raises(self, "WrongSize", 0, call, plan, number, data)
                    for k in range(most):
                        for bad in (-1, 256, 2 ** 40, -(2 ** 40)):
                            raises(self, "BadByte", k, call, plan, number, [255] * k + [bad] + [-5] * (most - k - 1))
                            raises(self, "BadByte", k, call, plan, number, [0] * k + [bad])

    def test_bits_that_are_no_content(self):
        rng = random.Random(703)
        for plan in plain_plans():
            most = plan.most_bytes()
            for size in (most + 1, most + 2, 2 * most + 7, 65535, 32768):
                bits = slow_bits(7, 16) + slow_bits(size, 16) + [0] * (plan.room() - 32)
                self.assertIsNone(fresh(self, read_content, plan, bits))
            for size in range(most + 1):
                bits = content(plan, 9, some_data(plan, rng, size))
                for k in {32 + 8 * size, plan.room() - 1}:
                    if 32 + 8 * size <= k < plan.room():
                        self.assertIsNone(read_content(plan, bits[:k] + [1] + bits[k + 1:]))
            for _ in range(50):
                bits = [rng.choice((0, 0, 0, 1)) for _ in range(plan.room())]
                self.assertEqual(read_content(plan, bits), slow_told(plan, bits))

    def test_wrong_numbers_of_bits(self):
        for plan in plain_plans() + register_plans():
            for size in (0, 32, plan.room() - 1, plan.room() + 1, plan.core_bits(), plan.payload_bits()):
                raises(self, "WrongSize", 0, read_content, plan, [0] * size)
                raises(self, "WrongSize", 0, core, plan, [1] * size)


class TestCores(unittest.TestCase):
    def test_core(self):
        rng = random.Random(704)
        for plan in plain_plans() + register_plans():
            lists = [[0] * plan.room(), [1] * plan.room(), content(plan, 77, some_data(plan, rng))]
            lists += [[rng.randrange(2) for _ in range(plan.room())] for _ in range(4)]
            for bits in lists:
                found = fresh(self, core, plan, bits)
                self.assertEqual(len(found), plan.core_bits())
                self.assertTrue(is_core_of(plan, found, bits))
                self.assertTrue(all(bit in (0, 1) for bit in found))

    def test_all_depths(self):
        rng = random.Random(705)
        for depth in range(1, 17):
            plan = plan_of(8, 7, 2, depth)
            bits = [rng.randrange(2) for _ in range(room_of(plan))]
            self.assertTrue(is_core_of(plan, core(plan, bits), bits))

    def test_payload(self):
        rng = random.Random(706)
        for plan in plain_plans() + register_plans():
            for number in (0, 65535, rng.randrange(65536)):
                data = some_data(plan, rng)
                bits = fresh(self, payload, plan, number, data)
                self.assertEqual(len(bits), plan.payload_bits())
                known = core(plan, slow_content(plan, number, data))
                self.assertEqual(bits, slow_payload(plan, known))

    def test_great_plans(self):
        rng = random.Random(707)
        for plan in (plan_of(8, 250, 20, 10), plan_of(7, 119, 20, 12, [19, 29], 4), plan_of(8, 255, 254, 5)):
            data = some_data(plan, rng, plan.most_bytes())
            known = core(plan, slow_content(plan, 4242, data))
            self.assertTrue(is_core_of(plan, known, slow_content(plan, 4242, data)))
            self.assertEqual(payload(plan, 4242, data), slow_payload(plan, known))

    def test_mark_plays_no_part(self):
        for mark in ([0], [1] * 32, MARK):
            plan = plan_of(4, 15, 4, 2, [7, 5], mark=mark, tolerance=3)
            self.assertEqual(payload(plan, 5, [1, 2]), payload(plan_of(4, 15, 4, 2, [7, 5]), 5, [1, 2]))
