import itertools
import random
import unittest

from farhaul.registers.register import Register
from farhaul.registers.rings import check_ring, is_catastrophic, ring
from reference import fresh, slow_rest
from test_register import some_registers


def registers_of_small_memories():
    found = []
    for v, sizes in ((1, (2, 3, 4)), (2, (2, 3)), (3, (2,)), (4, (2,))):
        for size in sizes:
            for taps in itertools.product(range(2 << v), repeat=size):
                if any(taps):
                    found.append(Register(v, list(taps)))
    return found


def divisor_is_a_power_of_x(taps):
    """The common divisor is the greatest number that divides all taps."""
    divisor = max(p for p in range(1, max(taps) + 1) if all(slow_rest(tap, p) == 0 for tap in taps))
    return divisor in (1, 2, 4, 8, 16, 32)


def has_ring(shift_register):
    """Whether some state other than 0 is reached from itself by steps that put out only 0s."""
    size = 2 ** shift_register.memory()
    ahead = [{shift_register.next_state(state, bit) for bit in (0, 1) if not any(shift_register.out(state, bit))}
             for state in range(size)]
    for _ in range(size):
        ahead = [states.union(*[ahead[state] for state in states]) for states in ahead]
    return any(state in ahead[state] for state in range(1, size))


def ring_passes(shift_register, steps):
    """Point 403, by its words."""
    if any(state not in range(2 ** shift_register.memory()) or bit not in (0, 1) for state, bit in steps):
        return False
    for k in range(len(steps)):
        state, bit = steps[k - 1]
        if shift_register.next_state(state, bit) != steps[k][0] or sum(shift_register.out(state, bit)) != 0:
            return False
    return any(bit == 1 for _, bit in steps)


class TestRings(unittest.TestCase):
    def assert_right(self, shift_register):
        answer = is_catastrophic(shift_register)
        self.assertIs(answer, not divisor_is_a_power_of_x(shift_register.taps()))
        steps = fresh(self, ring, shift_register)
        if not answer:
            self.assertIsNone(steps)
            return
        self.assertTrue(all(type(step) is tuple for step in steps))
        self.assertIs(check_ring(shift_register, steps), True)
        self.assertTrue(ring_passes(shift_register, steps))

    def test_all_taps_of_small_memories(self):
        for shift_register in registers_of_small_memories():
            self.assert_right(shift_register)

    def test_other_taps(self):
        for taps in itertools.product(range(0, 64, 3), range(64)):
            if any(taps):
                self.assert_right(Register(5, list(taps)))
        for shift_register in some_registers(101, many=40):
            self.assert_right(shift_register)
        rng = random.Random(102)
        for v in (2, 3, 4, 5):
            # Multiples of one polynomial.
            for _ in range(40):
                factor = rng.randrange(2, 8)
                taps = [k for k in range(2 << v) if slow_rest(k, factor) == 0]
                self.assert_right(Register(v, [taps[-1]] + [rng.choice(taps) for _ in range(rng.randrange(1, 4))]))

    def test_ring_and_divisor_belong_together(self):
        for shift_register in registers_of_small_memories()[::7] + some_registers(103, many=10):
            self.assertIs(is_catastrophic(shift_register), has_ring(shift_register))

    def test_known_registers(self):
        self.assertIs(is_catastrophic(Register(2, [7, 5])), False)
        self.assertIs(is_catastrophic(Register(2, [3, 5])), True)
        self.assertIs(is_catastrophic(Register(5, [32, 0])), False)
        self.assertIs(is_catastrophic(Register(2, [6, 6])), True)
        self.assertIs(is_catastrophic(Register(2, [0, 4, 0, 2])), False)


class TestCheck(unittest.TestCase):
    def assert_checked(self, shift_register, steps):
        found = fresh(self, check_ring, shift_register, steps)
        self.assertIs(found, ring_passes(shift_register, steps))
        return found

    def test_forms(self):
        for shift_register in (Register(1, [3, 3]), Register(2, [7, 5]), Register(2, [3, 5]), Register(3, [6, 10])):
            self.assertFalse(self.assert_checked(shift_register, []))
            self.assertFalse(self.assert_checked(shift_register, [(0, 0)]))
            self.assertFalse(self.assert_checked(shift_register, [(0, 0)] * 3))

    def test_all_short_lists(self):
        told = 0
        for shift_register in (Register(1, [3, 3]), Register(2, [3, 5]), Register(2, [7, 5]), Register(1, [2, 0])):
            pairs = list(itertools.product(range(-1, 2 ** shift_register.memory() + 1), range(-1, 3)))
            for size in range(4):
                for steps in itertools.product(pairs, repeat=size):
                    found = check_ring(shift_register, list(steps))
                    self.assertIs(found, ring_passes(shift_register, list(steps)))
                    told += found
        self.assertLess(0, told)

    def test_changed_rings(self):
        for shift_register in (Register(1, [3, 3]), Register(2, [7, 0]), Register(3, [15, 15]), Register(5, [27, 45]),
                               Register(4, [9, 27]), Register(5, [62, 62]), Register(5, [37, 37])):
            steps = ring(shift_register)
            self.assertTrue(self.assert_checked(shift_register, steps))
            self.assertTrue(self.assert_checked(shift_register, steps + steps))
            for k in range(len(steps)):
                self.assertTrue(self.assert_checked(shift_register, steps[k:] + steps[:k]))
                self.assert_checked(shift_register, steps[:k] + steps[k + 1:])
                self.assert_checked(shift_register, steps[:k] + [(0, 0)] + steps[k:])
                self.assert_checked(shift_register, steps[:k] + [steps[k], steps[k]] + steps[k + 1:])
                state, bit = steps[k]
                top = 2 ** shift_register.memory()
                for other in ((state, 1 - bit), (state, bit + 2), (state, -bit), (state, 2 ** 40), (state + top, bit),
                              (state - top, bit), (-1, bit), (top, bit), (2 ** 40, bit), (state ^ 1, bit)):
                    if other != (state, bit):
                        changed = steps[:k] + [other] + steps[k + 1:]
                        self.assertFalse(self.assert_checked(shift_register, changed))
            self.assert_checked(shift_register, steps[::-1])

    def test_a_ring_that_is_turned_around(self):
        # The states of this ring go round 1, 3, 6, 5 .. in one direction only.
        shift_register = Register(3, [11, 11])
        steps = ring(shift_register)
        self.assertLess(2, len(steps))
        self.assertFalse(self.assert_checked(shift_register, steps[::-1]))

    def test_bits_1_put_out(self):
        shift_register = Register(2, [7, 5])
        for size in range(1, 6):
            for bits in itertools.product((0, 1), repeat=size):
                # A way around that is a walk of the register, but puts out a bit 1.
                state = shift_register.run(0, list(bits) * 4)[0]
                steps = []
                for bit in bits:
                    steps.append((state, bit))
                    state = shift_register.next_state(state, bit)
                self.assertFalse(self.assert_checked(shift_register, steps))
        # Here one tap alone puts out a 1.
        self.assertFalse(self.assert_checked(Register(1, [3, 1]), [(1, 1)]))
        self.assertFalse(self.assert_checked(Register(1, [3, 3, 2]), [(1, 1)]))
        self.assertTrue(self.assert_checked(Register(1, [3, 3, 0]), [(1, 1)]))
