import itertools
import random
import unittest

from farhaul.bounds.turns import breaking_turns, lightest_row, row_distance, turn_bound
from farhaul.paths.mending import mend
from farhaul.registers.least import free_way
from farhaul.registers.register import Register
from reference import fresh, raises
from test_least import best_row, common_factor_registers
from test_register import slow_row, some_registers

FUNCTIONS = (row_distance, lightest_row, turn_bound, breaking_turns)


def turned(row, places):
    """The row with other bits in these places."""
    return [bit ^ 1 if place in places else bit for place, bit in enumerate(row)]


class TestTurnBounds(unittest.TestCase):
    def test_sizes_out_of_range(self):
        for shift_register in some_registers(901, many=1):
            for size in (0, -1, 201, 202, 2 ** 40, -(2 ** 40)):
                for call in FUNCTIONS:
                    raises(self, "OutOfRange", 0, call, shift_register, size)

    def test_against_all_messages(self):
        for shift_register in some_registers(902) + common_factor_registers():
            for size in range(1, 8):
                distance, message = best_row(shift_register, size)
                self.assertEqual(row_distance(shift_register, size), distance)
                self.assertEqual(fresh(self, lightest_row, shift_register, size), message)
                self.assertEqual(turn_bound(shift_register, size), (distance - 1) // 2)
                row = slow_row(shift_register.memory(), shift_register.taps(), message)
                ones = [place for place, bit in enumerate(row) if bit]
                found = fresh(self, breaking_turns, shift_register, size)
                self.assertIs(type(found), tuple)
                self.assertEqual(found, (message, ones[:(distance - 1) // 2 + 1]))

    def test_longer_rows(self):
        for shift_register in some_registers(903, many=1) + common_factor_registers():
            distances = [row_distance(shift_register, size) for size in list(range(1, 20)) + [60, 200]]
            self.assertEqual(distances, sorted(distances, reverse=True))
            self.assertEqual(distances[-1], free_way(shift_register)[0])
            self.assertEqual(len(lightest_row(shift_register, 200)), 200)

    def test_known_rows(self):
        shift_register = Register(2, [7, 5])
        self.assertEqual([row_distance(shift_register, size) for size in (1, 2, 3, 200)], [5, 5, 5, 5])
        self.assertEqual(lightest_row(shift_register, 3), [0, 0, 1])
        self.assertEqual(turn_bound(shift_register, 3), 2)
        self.assertEqual(breaking_turns(shift_register, 3), ([0, 0, 1], [4, 5, 6]))
        # The least row distances: the bound is 0 for 1 and for 2.
        self.assertEqual(row_distance(Register(1, [2, 0]), 5), 1)
        self.assertEqual(breaking_turns(Register(1, [2, 0]), 1), ([1], [2]))
        self.assertEqual(turn_bound(Register(1, [3, 0]), 5), 0)
        self.assertEqual(breaking_turns(Register(1, [3, 0]), 2), ([0, 1], [2]))

    def small_registers(self):
        return [Register(1, [3, 1]), Register(1, [1, 2]), Register(1, [3, 3]), Register(2, [7, 5]), Register(2, [3, 5]),
                Register(2, [7, 0]), Register(1, [2, 0]), Register(1, [3, 1, 2]), Register(3, [6, 10])]

    def test_whatever_is_turned_within_the_bound(self):
        for shift_register in self.small_registers():
            for size in (1, 2, 3, 4):
                bound = turn_bound(shift_register, size)
                for message in itertools.product((0, 1), repeat=size):
                    row = shift_register.ended_row(list(message))
                    for many in range(bound + 1):
                        for places in itertools.combinations(range(len(row)), many):
                            told = mend(shift_register, turned(row, places))
                            self.assertEqual(told[:2], (list(message), many))

    def test_greater_registers_within_the_bound(self):
        rng = random.Random(904)
        for shift_register in some_registers(905, many=1, memories=(3, 4, 5)):
            for size in (5, 40):
                bound = turn_bound(shift_register, size)
                for _ in range(5):
                    message = [rng.randrange(2) for _ in range(size)]
                    row = shift_register.ended_row(message)
                    told = mend(shift_register, turned(row, rng.sample(range(len(row)), bound)))
                    self.assertEqual(told[:2], (message, bound))

    def test_breaking_turns_break(self):
        registers = self.small_registers() + some_registers(906) + common_factor_registers()
        for shift_register in registers:
            for size in (1, 2, 3, 5, 12, 200):
                message, places = breaking_turns(shift_register, size)
                self.assertEqual(len(places), turn_bound(shift_register, size) + 1)
                self.assertEqual(len(message), size)
                told = mend(shift_register, turned(shift_register.ended_row(message), places))[0]
                self.assertNotEqual(told, message)
