import copy
import itertools
import random
import time
import unittest

from farhaul.paths.follower import Follower
from farhaul.registers.register import Register
from reference import raises, spoil
from test_least import common_factor_registers
from test_register import some_registers


def slow_states(shift_register, fed):
    """For each state None, or its price and told inputs behind all whole turns, by trying all inputs."""
    n = len(shift_register.taps())
    turns = len(fed) // n
    found = [None] * 2 ** shift_register.memory()
    for inputs in itertools.product((0, 1), repeat=turns):
        state, row = shift_register.run(0, list(inputs))
        total = sum(1 for bit, other in zip(row, fed) if other is not None and other != bit)
        if found[state] is None or (total, list(inputs)) < found[state]:
            found[state] = (total, list(inputs))
    return found


def shared(rows):
    """The longest list with which all rows begin."""
    size = 0
    while all(len(row) > size for row in rows) and len({row[size] for row in rows}) == 1:
        size += 1
    return rows[0][:size]


def parts_of(row, rng, most):
    """The row in parts of any sizes, some of them empty."""
    parts, k = [], 0
    while k < len(row):
        size = rng.randrange(most + 1)
        parts.append(row[k:k + size])
        k += size
    return parts + [[]]


def seen(follower, states):
    """All that a follower tells."""
    told = []
    for state in range(states):
        if follower.prices()[state] is not None:
            told.append(follower.told(state))
    return follower.given(), follower.turns(), follower.waiting(), follower.prices(), told


class TestFollower(unittest.TestCase):
    def assert_right(self, shift_register, follower, fed):
        n = len(shift_register.taps())
        self.assertEqual((follower.turns(), follower.waiting()), (len(fed) // n, len(fed) % n))
        known = slow_states(shift_register, fed)
        self.assertEqual(follower.prices(), [None if way is None else way[0] for way in known])
        for state, way in enumerate(known):
            if way is None:
                raises(self, "NoPath", state, follower.told, state)
            else:
                self.assertEqual(follower.told(state), way[1])
        self.assertEqual(follower.given(), shared([way[1] for way in known if way is not None]))

    def test_against_all_inputs(self):
        rng = random.Random(301)
        for shift_register in some_registers(302, many=1) + common_factor_registers():
            n = len(shift_register.taps())
            for choices in ((0, 1), (0, 1, None), (None,), (0,)):
                row = [rng.choice(choices) for _ in range(8 * n + rng.randrange(n))]
                follower, fed, given = Follower(shift_register), [], []
                self.assert_right(shift_register, follower, fed)
                for part in parts_of(row, rng, 2 * n + 1):
                    kept = list(part)
                    given += follower.feed(part)
                    self.assertEqual(part, kept)
                    fed += part
                    self.assert_right(shift_register, follower, fed)
                    self.assertEqual(given, follower.given())

    def test_parts_do_not_matter(self):
        rng = random.Random(303)
        for shift_register in some_registers(304, many=1):
            message = [rng.randrange(2) for _ in range(60)]
            row = shift_register.ended_row(message)
            for _ in range(10):
                row[rng.randrange(len(row))] = rng.choice((0, 1, None))
            row += [1]
            known = None
            for most in (1, 2, 7, 50, len(row)):
                follower = Follower(shift_register)
                given = []
                for part in parts_of(row, rng, most):
                    given += follower.feed(part)
                self.assertEqual(given, follower.given())
                told = seen(follower, 2 ** shift_register.memory())
                self.assertEqual(told, known or told)
                known = told

    def test_nothing_fed(self):
        for shift_register in some_registers(305, many=1):
            states = 2 ** shift_register.memory()
            follower = Follower(shift_register)
            for _ in range(2):
                self.assertEqual((follower.given(), follower.turns(), follower.waiting()), ([], 0, 0))
                self.assertEqual(follower.prices(), [0] + [None] * (states - 1))
                self.assertEqual(follower.told(0), [])
                self.assertEqual(follower.feed([]), [])

    def test_states(self):
        for shift_register in some_registers(306, many=1):
            states = 2 ** shift_register.memory()
            follower = Follower(shift_register)
            for _ in range(shift_register.memory() + 1):
                for state in (-1, -2, -states, states, states + 1, 2 ** 40, -(2 ** 40)):
                    raises(self, "OutOfRange", state, follower.told, state)
                for state in range(states):
                    if state >= 2 ** follower.turns():
                        raises(self, "NoPath", state, follower.told, state)
                    else:
                        self.assertEqual(len(follower.told(state)), follower.turns())
                follower.feed([0] * len(shift_register.taps()))

    def test_given_bits_never_change(self):
        rng = random.Random(307)
        for shift_register in some_registers(308, many=1):
            follower = Follower(shift_register)
            given = []
            for _ in range(60):
                given += follower.feed([rng.choice((0, 1, None)) for _ in range(rng.randrange(9))])
                self.assertEqual(follower.given(), given)
                told = [follower.told(k) for k, total in enumerate(follower.prices()) if total is not None]
                self.assertEqual(shared(told), given)

    def test_bits_are_given_soon(self):
        rng = random.Random(309)
        shift_register = Register(2, [7, 5])
        message = [rng.randrange(2) for _ in range(100)]
        follower = Follower(shift_register)
        follower.feed(shift_register.ended_row(message))
        self.assertLess(80, len(follower.given()))
        self.assertEqual(follower.given(), (message + [0, 0])[:len(follower.given())])
        self.assertEqual(follower.told(0), message + [0, 0])
        self.assertEqual(follower.prices()[0], 0)

    def test_copies(self):
        rng = random.Random(310)
        for shift_register in some_registers(311, many=1):
            states = 2 ** shift_register.memory()
            follower = Follower(shift_register)
            follower.feed([rng.choice((0, 1, None)) for _ in range(33)])
            before = copy.deepcopy(seen(follower, states))
            other = follower.copy()
            self.assertIsInstance(other, Follower)
            self.assertEqual(seen(other, states), before)
            row = [rng.choice((0, 1, None)) for _ in range(29)]
            follower.feed(row)
            self.assertEqual(seen(other, states), before)
            after = copy.deepcopy(seen(follower, states))
            third = other.copy()
            other.feed([1 if bit == 0 else 0 for bit in row])
            self.assertEqual(seen(follower, states), after)
            self.assertEqual(seen(third, states), before)
            third.feed(row)
            self.assertEqual(seen(third, states), after)

    def test_results_are_new_lists(self):
        shift_register = Register(2, [7, 5])
        follower = Follower(shift_register)
        for part in ([1, 1, 0, 1, 0], [], [0] * 40, [1]):
            spoil(follower.feed(part))
            before = copy.deepcopy(seen(follower, 4))
            for call in (follower.given, follower.prices):
                spoil(call())
            for state in range(4):
                if before[3][state] is not None:
                    spoil(follower.told(state))
            self.assertEqual(seen(follower, 4), before)

    def test_parts_are_copied(self):
        follower = Follower(Register(2, [7, 5]))
        part = [1]
        follower.feed(part)
        part[0] = 0
        part.append(1)
        follower.feed([1])
        self.assertEqual(follower.prices(), [2, 0, None, None])

    def test_many_turns(self):
        rng = random.Random(312)
        for shift_register in (Register(5, [53, 47]), Register(5, [63, 63]), Register(5, [0, 1]), Register(5, [32, 0])):
            for choices in ((0, 1), (None,), (0,)):
                row = [rng.choice(choices) for _ in range(2000)]
                start = time.monotonic()
                one, two = Follower(shift_register), Follower(shift_register)
                one.feed(row)
                for bit in row:
                    two.feed([bit])
                self.assertLess(time.monotonic() - start, 20)
                self.assertEqual(seen(one, 32), seen(two, 32))
                self.assertEqual(one.turns(), 1000)
