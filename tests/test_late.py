import random
import unittest

from farhaul.paths.follower import Follower
from farhaul.registers.register import Register
from farhaul.tails.late import LateFollower
from reference import raises, spoil
from test_follower import parts_of, shared, slow_states
from test_least import common_factor_registers
from test_paths import noisy
from test_register import some_registers


class SlowLate:
    """What a late follower tells, by trying all inputs behind each turn."""

    def __init__(self, shift_register, delay, row):
        self.n = len(shift_register.taps())
        self.delay = delay
        self.given, self.guesses, self.ways, self.bests = [], [], [], []
        for turns in range(len(row) // self.n + 1):
            ways = slow_states(shift_register, row[:turns * self.n])
            best = min((way[0], way[1], state) for state, way in enumerate(ways) if way is not None)
            self.ways.append(ways)
            self.bests.append(best[2])
            if turns > delay:
                index = turns - delay - 1
                self.given.append(best[1][index])
                if index >= len(shared([way[1] for way in ways if way is not None])):
                    self.guesses.append(index)


def fed_with(shift_register, delay, row):
    late = LateFollower(shift_register, delay)
    late.feed(row)
    return late


def seen(late, states):
    """All that a late follower tells."""
    rests = []
    for state in range(states):
        try:
            rests.append(late.rest(state))
        except ValueError:
            rests.append(None)
    return late.given(), late.guesses(), late.turns(), late.waiting(), late.best(), rests


class TestLateFollower(unittest.TestCase):
    def rows_for(self, shift_register, turns, rng):
        size = turns * len(shift_register.taps())
        row = shift_register.run(0, [rng.randrange(2) for _ in range(turns)])[1]
        return [noisy(row, rng, 2, 2), [rng.choice((0, 1, None)) for _ in range(size)], [None] * size,
                [rng.choice((0, 1)) for _ in range(size)]]

    def assert_right(self, shift_register, late, slow, size):
        turns = size // slow.n
        many = max(0, turns - slow.delay)
        self.assertEqual((late.turns(), late.waiting()), (turns, size % slow.n))
        self.assertEqual(late.given(), slow.given[:many])
        self.assertEqual(late.guesses(), [k for k in slow.guesses if k < many])
        self.assertEqual(late.best(), slow.bests[turns])
        for state, way in enumerate(slow.ways[turns]):
            if way is None:
                raises(self, "NoPath", state, late.rest, state)
            else:
                self.assertEqual(late.rest(state), way[1][many:])

    def test_against_all_inputs(self):
        rng = random.Random(1245)
        guesses = 0
        for shift_register in some_registers(1246, many=1) + common_factor_registers():
            for row in self.rows_for(shift_register, 7, rng):
                for delay in (0, 1, 2, 6, 200):
                    slow = SlowLate(shift_register, delay, row)
                    late = LateFollower(shift_register, delay)
                    size = 0
                    self.assert_right(shift_register, late, slow, 0)
                    for part in parts_of(row, rng, 5):
                        before = list(part)
                        told = late.feed(part)
                        many = max(0, size // slow.n - delay)
                        size += len(part)
                        self.assertEqual(part, before)
                        self.assertEqual(told, slow.given[many:max(0, size // slow.n - delay)])
                        self.assert_right(shift_register, late, slow, size)
                    guesses += len(slow.guesses)
        self.assertLess(100, guesses)

    def test_parts_of_any_sizes(self):
        rng = random.Random(1247)
        for shift_register in some_registers(1248, many=1):
            states = 2 ** shift_register.memory()
            row = self.rows_for(shift_register, 60, rng)[rng.randrange(2)]
            for delay in (0, 1, 9, 59, 60, 200):
                whole = LateFollower(shift_register, delay)
                told = whole.feed(row)
                for most in (1, 2, 7, 40):
                    late, given = LateFollower(shift_register, delay), []
                    for part in parts_of(row, rng, most):
                        given += late.feed(part)
                    self.assertEqual(given, told)
                    self.assertEqual(seen(late, states), seen(whole, states))
                self.assertEqual(len(told), max(0, 60 - delay))

    def test_greater_delays(self):
        rng = random.Random(1249)
        sure = 0
        for shift_register in some_registers(1250, many=1) + common_factor_registers():
            for row in self.rows_for(shift_register, 80, rng)[:2]:
                bits = {}
                for delay in (0, 1, 2, 5, 10, 30):
                    late = fed_with(shift_register, delay, row)
                    given, guesses = late.given(), late.guesses()
                    for index, bit in bits.items():
                        if index < len(given):
                            self.assertEqual(given[index], bit)
                            self.assertNotIn(index, guesses)
                    bits.update({k: bit for k, bit in enumerate(given) if k not in guesses})
                    sure += len(given) - len(guesses)
        self.assertLess(1000, sure)

    def test_sure_bits_are_those_of_all_states(self):
        rng = random.Random(1251)
        for shift_register in some_registers(1252, many=1):
            row = self.rows_for(shift_register, 50, rng)[0]
            follower, late = Follower(shift_register), LateFollower(shift_register, 6)
            n = len(shift_register.taps())
            for turn in range(50):
                follower.feed(row[turn * n:turn * n + n])
                late.feed(row[turn * n:turn * n + n])
                given = follower.given()
                sure = [k for k in range(len(late.given())) if k not in late.guesses()]
                self.assertEqual([late.given()[k] for k in sure], [given[k] for k in sure])
                # A bit with a lower index than the given ones now may have been a guess when it came.
                if late.given() and len(late.given()) > len(given):
                    self.assertIn(len(late.given()) - 1, late.guesses())

    def test_known_row(self):
        shift_register = Register(2, [7, 5])
        row = shift_register.run(0, [1, 0, 1, 1])[1]
        late = LateFollower(shift_register, 2)
        self.assertEqual([late.feed([bit]) for bit in row], [[], [], [], [], [], [1], [], [0]])
        self.assertEqual((late.given(), late.guesses(), late.best()), ([1, 0], [], 3))
        self.assertEqual([late.rest(state) for state in range(4)][3], [1, 1])

    def test_best_of_several(self):
        # All prices are 0, so the state is the best one whose told inputs are the first ones.
        for shift_register in some_registers(1253, many=1):
            late = LateFollower(shift_register, 0)
            n = len(shift_register.taps())
            self.assertEqual((late.best(), late.rest(0)), (0, []))
            for turn in range(8):
                self.assertEqual(late.feed([None] * n), [0])
                self.assertEqual((late.best(), late.rest(0)), (0, []))
            self.assertEqual(late.guesses(), list(range(8)))

    def test_best_is_not_the_lowest_state(self):
        # With equal prices the told inputs decide, not the numbers of the states.
        found = 0
        rng = random.Random(1254)
        for shift_register in common_factor_registers() + some_registers(1255, many=1, memories=(2, 3)):
            for row in self.rows_for(shift_register, 6, rng):
                late = fed_with(shift_register, 3, row)
                ways = slow_states(shift_register, row)
                least = min(way[0] for way in ways if way is not None)
                ties = [(way[1], state) for state, way in enumerate(ways) if way is not None and way[0] == least]
                self.assertEqual(late.best(), min(ties)[1])
                found += min(ties)[1] != min(state for _, state in ties)
        self.assertLess(0, found)

    def test_delays_out_of_range(self):
        for shift_register in some_registers(1256, many=1, memories=(1, 5)):
            for delay in (-1, 201, 202, 2 ** 40, -(2 ** 40)):
                raises(self, "OutOfRange", delay, LateFollower, shift_register, delay)
            for delay in (0, 1, 200):
                self.assertEqual(seen(LateFollower(shift_register, delay), 1), ([], [], 0, 0, 0, [[]]))

    def test_states(self):
        rng = random.Random(1257)
        for shift_register in some_registers(1258, many=1):
            late = LateFollower(shift_register, 1)
            states = 2 ** shift_register.memory()
            for part in parts_of(self.rows_for(shift_register, 4, rng)[0], rng, 3):
                late.feed(part)
                before = seen(late, states)
                for state in (-1, states, states + 1, 2 ** 40, -(2 ** 40)):
                    raises(self, "OutOfRange", state, late.rest, state)
                for state in range(states):
                    if before[5][state] is None:
                        raises(self, "NoPath", state, late.rest, state)
                self.assertEqual(seen(late, states), before)

    def test_copies(self):
        rng = random.Random(1259)
        for shift_register in some_registers(1260, many=1):
            states = 2 ** shift_register.memory()
            rows = self.rows_for(shift_register, 30, rng)
            for delay in (0, 3):
                for cut in (0, 1, 11, 40):
                    late = fed_with(shift_register, delay, rows[0][:cut])
                    before = seen(late, states)
                    other = late.copy()
                    other.feed(rows[1])
                    self.assertEqual(seen(late, states), before)
                    late.feed(rows[0][cut:])
                    whole = fed_with(shift_register, delay, rows[0])
                    self.assertEqual(seen(late, states), seen(whole, states))
                    theirs = fed_with(shift_register, delay, rows[0][:cut] + rows[1])
                    self.assertEqual(seen(other, states), seen(theirs, states))
                    self.assertIsInstance(other, LateFollower)

    def test_new_lists(self):
        rng = random.Random(1261)
        for shift_register in some_registers(1262, many=1, memories=(1, 2, 5)):
            states = 2 ** shift_register.memory()
            late, plain = LateFollower(shift_register, 2), LateFollower(shift_register, 2)
            for part in parts_of(self.rows_for(shift_register, 20, rng)[0], rng, 6):
                kept = list(part)
                told = late.feed(part)
                self.assertEqual(told, plain.feed(kept))
                spoil(told)
                spoil(part)
                for result in (late.given(), late.guesses(), late.rest(late.best())):
                    spoil(result)
                self.assertEqual(seen(late, states), seen(plain, states))

    def test_2000_elements(self):
        rng = random.Random(1263)
        for shift_register, turns in ((Register(5, [53, 47]), 1000), (Register(1, [3, 1]), 1000), (Register(4, [21, 31, 9]), 666)):
            inputs = [rng.randrange(2) for _ in range(turns)]
            row = noisy(shift_register.run(0, inputs)[1], rng, 20, 20)
            for delay in (0, 40, 200):
                late = fed_with(shift_register, delay, row)
                self.assertEqual(len(late.given()), turns - delay)
                follower = Follower(shift_register)
                follower.feed(row)
                told = follower.told(late.best())
                self.assertEqual(late.rest(late.best()), told[turns - delay:])
