import itertools
import random
import unittest

from farhaul.registers.register import Register
from reference import fresh, raises, slow_times


def some_registers(seed, many=3, memories=(1, 2, 3, 4, 5)):
    rng = random.Random(seed)
    found = []
    for v in memories:
        for taps in (2, 3, 4):
            for _ in range(many):
                row = [rng.randrange(2 << v) for _ in range(taps)]
                if any(row):
                    found.append(Register(v, row))
    return found


def slow_row(v, taps, message):
    """The ended row, by the sums of the document: the bit i of a tap stands for the input i steps ago."""
    inputs = message + [0] * v
    row = []
    for t in range(len(inputs)):
        for tap in taps:
            row.append(sum((tap >> i & 1) * inputs[t - i] for i in range(v + 1) if t - i >= 0) % 2)
    return row


class TestRegister(unittest.TestCase):
    def test_memory_out_of_range(self):
        for v in (0, -1, 6, 7, 2 ** 40, -(2 ** 40)):
            for taps in ([3, 1], [], [1], [0, 0], [-1, 2], [1] * 5):
                raises(self, "OutOfRange", v, Register, v, taps)

    def test_number_of_taps(self):
        for v in range(1, 6):
            for taps in ([], [1], [0], [-1], [1] * 5, [0] * 5, [2 ** 40] * 7):
                raises(self, "BadTaps", len(taps), Register, v, taps)

    def test_taps_out_of_range(self):
        for v in range(1, 6):
            top = 2 ** (v + 1)
            for taps, k in (
                ([-1, 0], 0), ([top, 0], 0), ([0, top], 1), ([0, -1], 1), ([1, 2, -1, top], 2), ([1, 2, 3, top], 3),
                ([0, 0, 2 ** 40], 2), ([0, 0, 0, -(2 ** 40)], 3), ([-5, -5, -5], 0),
            ):
                raises(self, "BadTaps", k, Register, v, taps)

    def test_all_taps_0(self):
        for v in range(1, 6):
            for many in (2, 3, 4):
                raises(self, "BadTaps", many, Register, v, [0] * many)

    def test_memory_and_taps(self):
        for v in range(1, 6):
            for taps in ([0, 1], [2 ** (v + 1) - 1, 0], [1, 2, 3], [3, 0, 0, 1]):
                given = list(taps)
                shift_register = Register(v, given)
                given[0] = 99
                self.assertEqual(shift_register.memory(), v)
                self.assertEqual(fresh(self, shift_register.taps), taps)
                self.assertEqual(fresh(self, shift_register.ended_row, [1]), slow_row(v, taps, [1]))

    def test_steps(self):
        for shift_register in some_registers(1):
            v, taps = shift_register.memory(), shift_register.taps()
            for state in range(2 ** v):
                for bit in (0, 1):
                    # The bit 0 of a state is the last input.
                    inputs = [bit] + [state >> i & 1 for i in range(v)]
                    after = sum(inputs[i] << i for i in range(v))
                    self.assertEqual(shift_register.next_state(state, bit), after)
                    out = [sum((tap >> i & 1) * inputs[i] for i in range(v + 1)) % 2 for tap in taps]
                    self.assertEqual(fresh(self, shift_register.out, state, bit), out)

    def test_run(self):
        rng = random.Random(2)
        for shift_register in some_registers(3, many=1):
            for state in range(2 ** shift_register.memory()):
                bits = [rng.randrange(2) for _ in range(rng.randrange(8))]
                last, row = state, []
                for bit in bits:
                    row += shift_register.out(last, bit)
                    last = shift_register.next_state(last, bit)
                found = fresh(self, shift_register.run, state, bits)
                self.assertIs(type(found), tuple)
                self.assertEqual(found, (last, row))
                self.assertEqual(fresh(self, shift_register.run, state, []), (state, []))

    def test_ended_row(self):
        for shift_register in some_registers(4):
            v, taps = shift_register.memory(), shift_register.taps()
            for size in range(6):
                rows = {}
                for message in itertools.product((0, 1), repeat=size):
                    row = fresh(self, shift_register.ended_row, list(message))
                    self.assertEqual(row, slow_row(v, taps, list(message)))
                    rows[tuple(row)] = message
                self.assertEqual(len(rows), 2 ** size)
            self.assertEqual(shift_register.ended_row([]), [0] * v * len(taps))

    def test_ended_row_is_a_product(self):
        for shift_register in some_registers(5):
            v, taps = shift_register.memory(), shift_register.taps()
            message = [1, 0, 1, 1, 1, 0, 0, 1, 0]
            row = shift_register.ended_row(message)
            for k, tap in enumerate(taps):
                product = slow_times(sum(bit << i for i, bit in enumerate(message)), tap)
                self.assertEqual(row[k::len(taps)], [product >> i & 1 for i in range(len(message) + v)])

    def test_sums_of_rows(self):
        rng = random.Random(6)
        for shift_register in some_registers(7):
            one, two = ([rng.randrange(2) for _ in range(9)] for _ in range(2))
            both = [e ^ f for e, f in zip(one, two)]
            rows = [shift_register.ended_row(message) for message in (one, two, both)]
            self.assertEqual([e ^ f for e, f in zip(rows[0], rows[1])], rows[2])

    def test_long_messages(self):
        shift_register = Register(5, [53, 47])
        message = [k * k % 7 % 2 for k in range(20000)]
        self.assertEqual(shift_register.ended_row(message), slow_row(5, [53, 47], message))
