import itertools
import random
import unittest

from farhaul.registers.least import check_free, check_row, free_paper, free_way, least_row, row_paper
from farhaul.registers.register import Register
from reference import bounds_rows, fresh
from test_register import some_registers


def common_factor_registers():
    """Registers whose taps have a common factor, so that ways without a 1 put out lead around."""
    return [Register(1, [3, 3]), Register(2, [3, 5]), Register(2, [7, 0]), Register(2, [5, 5, 0]), Register(3, [6, 10]),
            Register(4, [9, 27]), Register(3, [15, 15, 15, 0]), Register(1, [2, 0]), Register(5, [4, 32])]


def best_row(shift_register, count):
    """The least row, by trying all messages."""
    messages = [list(message) for message in itertools.product((0, 1), repeat=count) if any(message)]
    return min((sum(shift_register.ended_row(message)), message) for message in messages)


def row_passes(shift_register, count, weight, message, paper):
    """The check of point 405, by its words."""
    if not bounds_rows(shift_register, count, lambda step, state, bit: sum(shift_register.out(state, bit)), paper):
        return False
    if len(message) != count or any(bit not in (0, 1) for bit in message) or 1 not in message:
        return False
    if sum(shift_register.ended_row(message)) != weight:
        return False
    for step in range(count):
        behind = paper[step + 1][shift_register.next_state(0, 1)]
        if behind is not None and weight > sum(shift_register.out(0, 1)) + behind:
            return False
    return True


def best_way(shift_register):
    """The least free way: a search over weights, numbers of inputs and lists."""
    ways = [(sum(shift_register.out(0, 1)), 1, [1])]
    done = {}
    while True:
        weight, many, inputs = least = min(ways)
        ways.remove(least)
        state = shift_register.run(0, inputs)[0]
        if state == 0:
            return weight, inputs
        if state in done:
            continue
        done[state] = True
        for bit in (0, 1):
            ways.append((weight + sum(shift_register.out(state, bit)), many + 1, inputs + [bit]))


def free_passes(shift_register, weight, inputs, paper):
    """The check of point 407, by its words."""
    if len(paper) != 2 ** shift_register.memory() or paper[0] > 0:
        return False
    for state in range(1, len(paper)):
        for bit in (0, 1):
            behind = paper[shift_register.next_state(state, bit)]
            if paper[state] > behind + sum(shift_register.out(state, bit)):
                return False
    if not inputs or inputs[0] != 1 or any(bit not in (0, 1) for bit in inputs):
        return False
    states = [shift_register.run(0, inputs[:k])[0] for k in range(1, len(inputs) + 1)]
    if 0 in states[:-1] or states[-1] != 0 or sum(shift_register.run(0, inputs)[1]) != weight:
        return False
    return weight <= sum(shift_register.out(0, 1)) + paper[shift_register.next_state(0, 1)]


class TestRows(unittest.TestCase):
    def test_least_row(self):
        for shift_register in some_registers(1) + common_factor_registers():
            for count in range(1, 8):
                found = fresh(self, least_row, shift_register, count)
                self.assertIs(type(found), tuple)
                self.assertEqual(found, best_row(shift_register, count))

    def test_first_one_of_several(self):
        self.assertEqual(least_row(Register(2, [7, 5]), 5), (5, [0, 0, 0, 0, 1]))
        # Each message with one 1 has the weight 3 here; with these two taps [1, 1] has 2.
        self.assertEqual(least_row(Register(1, [3, 1]), 3), (3, [0, 0, 1]))
        self.assertEqual(least_row(Register(1, [3, 3]), 3), (4, [0, 0, 1]))
        self.assertEqual(least_row(Register(2, [7, 0]), 4), (2, [0, 0, 1, 1]))

    def test_paper_is_accepted(self):
        for shift_register in some_registers(2) + common_factor_registers():
            for count in (1, 2, 3, 6, 9):
                weight, message = least_row(shift_register, count)
                paper = fresh(self, row_paper, shift_register, count)
                self.assertEqual(len(paper), count + shift_register.memory() + 1)
                self.assertIs(fresh(self, check_row, shift_register, count, weight, message, paper), True)
                self.assertTrue(row_passes(shift_register, count, weight, message, paper))

    def test_greater_counts(self):
        for shift_register in some_registers(3, many=1) + common_factor_registers():
            weights = []
            for count in (1, 12, 50, 200):
                weight, message = least_row(shift_register, count)
                weights.append(weight)
                self.assertEqual(len(message), count)
                self.assertEqual(sum(shift_register.ended_row(message)), weight)
                self.assertTrue(check_row(shift_register, count, weight, message, row_paper(shift_register, count)))
                self.assertLess(0, weight)
            self.assertEqual(weights, sorted(weights, reverse=True))

    def assert_checked(self, shift_register, count, weight, message, paper):
        found = fresh(self, check_row, shift_register, count, weight, message, paper)
        self.assertIs(found, row_passes(shift_register, count, weight, message, paper))
        return found

    def test_other_forms(self):
        for shift_register in some_registers(4, many=1, memories=(1, 2, 3)):
            weight, message = least_row(shift_register, 3)
            paper = row_paper(shift_register, 3)
            others = [[], paper[1:], paper[:-1], paper + [paper[-1]], [paper[0]] + paper, paper[::-1]]
            for k in range(len(paper)):
                for numbers in ([], paper[k][:-1], paper[k] + [0], paper[k] + [None], paper[k][1:]):
                    others.append(paper[:k] + [numbers] + paper[k + 1:])
            for other in others:
                self.assertFalse(self.assert_checked(shift_register, 3, weight, message, other))

    def test_each_number_changed(self):
        for shift_register in some_registers(5, many=1, memories=(1, 2, 3)) + common_factor_registers()[:5]:
            weight, message = least_row(shift_register, 4)
            paper = row_paper(shift_register, 4)
            told = 0
            for step in range(len(paper)):
                for state in range(len(paper[step])):
                    for number in (None, 0, 1, -1, -(2 ** 40), 2 ** 40):
                        other = [list(numbers) for numbers in paper]
                        if number in (1, -1):
                            number += other[step][state] or 0
                        other[step][state] = number
                        told += self.assert_checked(shift_register, 4, weight, message, other)
            self.assertLess(0, told)

    def test_number_too_great_by_one(self):
        for shift_register in some_registers(6, many=1):
            weight, message = least_row(shift_register, 4)
            paper = row_paper(shift_register, 4)
            for step in range(len(paper)):
                for state in range(len(paper[step])):
                    if paper[step][state] is not None:
                        for number in (paper[step][state] + 1, None):
                            other = [list(numbers) for numbers in paper]
                            other[step][state] = number
                            self.assertFalse(self.assert_checked(shift_register, 4, weight, message, other))

    def test_end(self):
        shift_register = Register(2, [7, 5])
        weight, message = least_row(shift_register, 4)
        paper = row_paper(shift_register, 4)
        for number, accepted in ((0, True), (-1, False), (1, False), (None, False), (2 ** 40, False)):
            other = paper[:-1] + [[number] + paper[-1][1:]]
            self.assertIs(self.assert_checked(shift_register, 4, weight, message, other), accepted)
        # Papers in which all is well but for the end, for messages of another weight, too.
        nothing = [[None] * 4 for _ in paper]
        greater = [[None if number is None else number + 4 for number in numbers] for numbers in paper]
        for other in itertools.product((0, 1), repeat=4):
            claim = sum(shift_register.ended_row(list(other)))
            self.assertFalse(self.assert_checked(shift_register, 4, claim, list(other), nothing))
            self.assertFalse(self.assert_checked(shift_register, 4, claim, list(other), greater))
        # A number for another state at the end binds the states that lead to it, here by an input 0.
        for number in (-5, 0, 5, 2 ** 40):
            other = paper[:-1] + [[0, None, number, None]]
            self.assertFalse(self.assert_checked(shift_register, 4, weight, message, other))
            other = paper[:-1] + [[0, number, None, number]]
            self.assertTrue(self.assert_checked(shift_register, 4, weight, message, other))

    def test_lower_numbers_are_bounds_too(self):
        shift_register = Register(2, [7, 5])
        weight, message = least_row(shift_register, 4)
        paper = row_paper(shift_register, 4)
        lower = [[None if number is None else number - 1 for number in numbers] for numbers in paper]
        self.assertFalse(self.assert_checked(shift_register, 4, weight, message, lower))
        self.assertTrue(self.assert_checked(shift_register, 4, weight, message,
                                            [[paper[0][0] - 7] + paper[0][1:]] + paper[1:]))

    def test_other_messages(self):
        for shift_register in some_registers(7, many=1, memories=(1, 2, 4)):
            weight, message = least_row(shift_register, 4)
            paper = row_paper(shift_register, 4)
            for size in range(7):
                for other in itertools.product((0, 1), repeat=size):
                    for claim in (weight, sum(shift_register.ended_row(list(other)))):
                        self.assert_checked(shift_register, 4, claim, list(other), paper)
            others = [[0, 0, 0, 0], [], message + [0], message[1:]]
            for wrong in (2, -1, 3, 2 ** 40):
                others += [message[:k] + [wrong] + message[k + 1:] for k in range(4)]
            for other in others:
                for claim in (0, weight):
                    self.assertFalse(check_row(shift_register, 4, claim, other, paper))
            for claim in (weight - 1, weight + 1, 0, -weight, 2 ** 40):
                self.assertFalse(self.assert_checked(shift_register, 4, claim, message, paper))

    def test_a_message_of_no_least_weight(self):
        shift_register = Register(2, [7, 5])
        paper = row_paper(shift_register, 4)
        for message in itertools.product((0, 1), repeat=4):
            weight = sum(shift_register.ended_row(list(message)))
            found = self.assert_checked(shift_register, 4, weight, list(message), paper)
            self.assertIs(found, weight == 5)


class TestFreeWays(unittest.TestCase):
    def test_known_distances(self):
        # Free distances that are known for these codes of the rates 1/2 and 1/3.
        for v, taps, weight in ((2, [7, 5], 5), (3, [13, 15], 6), (4, [19, 29], 7), (5, [43, 61], 8),
                                (2, [7, 7, 5], 8), (1, [3, 1], 3)):
            self.assertEqual(free_way(Register(v, taps))[0], weight)

    def test_free_way(self):
        for shift_register in some_registers(8, many=8) + common_factor_registers():
            found = fresh(self, free_way, shift_register)
            self.assertIs(type(found), tuple)
            self.assertEqual(found, best_way(shift_register))

    def test_all_registers_of_small_memories(self):
        for v in (1, 2):
            for taps in itertools.product(range(2 ** (v + 1)), repeat=2):
                if any(taps):
                    shift_register = Register(v, list(taps))
                    self.assertEqual(free_way(shift_register), best_way(shift_register))
                    self.assertTrue(check_free(shift_register, *free_way(shift_register), free_paper(shift_register)))

    def test_fewest_inputs_come_before_the_first_list(self):
        # Here a longer way that comes first as a list has the same weight.
        for v, taps, inputs in ((4, [5, 31], [1, 1, 0, 0, 0, 0]), (4, [15, 29], [1, 1, 0, 0, 0, 0]),
                                (5, [7, 61], [1, 1, 0, 0, 0, 0, 0])):
            shift_register = Register(v, taps)
            self.assertEqual(free_way(shift_register)[1], inputs)
            self.assertEqual(free_way(shift_register), best_way(shift_register))
            longer = {4: {5: [1, 0, 1, 0, 0, 0, 0], 15: [1, 0, 1, 1, 0, 0, 0, 0]},
                      5: {7: [1, 0, 1, 1, 0, 0, 0, 0, 0]}}[v][taps[0]]
            weight = free_way(shift_register)[0]
            self.assertTrue(check_free(shift_register, weight, longer, free_paper(shift_register)))

    def test_all_registers_of_two_taps(self):
        for v in (3, 4):
            for taps in itertools.combinations_with_replacement(range(2 ** (v + 1)), 2):
                if any(taps):
                    shift_register = Register(v, list(taps))
                    self.assertEqual(free_way(shift_register), best_way(shift_register))

    def test_weight_is_that_of_the_least_rows(self):
        for shift_register in some_registers(9) + common_factor_registers():
            self.assertEqual(free_way(shift_register)[0], least_row(shift_register, 60)[0])

    def test_paper_is_accepted(self):
        for shift_register in some_registers(10, many=8) + common_factor_registers():
            weight, inputs = free_way(shift_register)
            paper = fresh(self, free_paper, shift_register)
            self.assertEqual(len(paper), 2 ** shift_register.memory())
            self.assertTrue(all(type(number) is int for number in paper))
            self.assertIs(fresh(self, check_free, shift_register, weight, inputs, paper), True)
            self.assertTrue(free_passes(shift_register, weight, inputs, paper))

    def assert_checked(self, shift_register, weight, inputs, paper):
        found = fresh(self, check_free, shift_register, weight, inputs, paper)
        self.assertIs(found, free_passes(shift_register, weight, inputs, paper))
        return found

    def test_changed_papers(self):
        for shift_register in some_registers(11, many=2) + common_factor_registers():
            weight, inputs = free_way(shift_register)
            paper = free_paper(shift_register)
            for other in ([], paper[1:], paper[:-1], paper + [0], [0] * (len(paper) + 1)):
                self.assertFalse(self.assert_checked(shift_register, weight, inputs, other))
            for state in range(len(paper)):
                for change in (1, -1, 2, -3, 2 ** 40, -(2 ** 40)):
                    other = list(paper)
                    other[state] += change
                    found = self.assert_checked(shift_register, weight, inputs, other)
                    self.assertFalse(found and change > 0)
            lower = [number - 1 for number in paper]
            self.assertFalse(self.assert_checked(shift_register, weight, inputs, lower))

    def test_changed_inputs(self):
        for shift_register in some_registers(12, many=2) + common_factor_registers():
            weight, inputs = free_way(shift_register)
            paper = free_paper(shift_register)
            others = [[], [1], [0] + inputs, inputs + [0], inputs + inputs, inputs[:-1], inputs[1:], [0]]
            for k in range(len(inputs)):
                others += [inputs[:k] + [bit] + inputs[k + 1:] for bit in (0, 1, 2, -1, 2 ** 40) if bit != inputs[k]]
            for other in others:
                if all(bit in (0, 1) for bit in other):
                    self.assert_checked(shift_register, sum(shift_register.run(0, other)[1]), other, paper)
                for claim in (0, weight):
                    self.assert_checked(shift_register, claim, other, paper)
            for other in others[:8]:
                self.assertFalse(check_free(shift_register, weight, other, paper))
            for claim in (weight + 1, weight - 1, 0, -weight, 2 ** 40):
                self.assertFalse(self.assert_checked(shift_register, claim, inputs, paper))

    def test_all_short_inputs(self):
        for shift_register in some_registers(13, many=1, memories=(1, 2, 3)) + common_factor_registers()[:4]:
            weight = free_way(shift_register)[0]
            paper = free_paper(shift_register)
            for size in range(8):
                for inputs in itertools.product((0, 1), repeat=size):
                    claim = sum(shift_register.run(0, list(inputs))[1])
                    found = check_free(shift_register, claim, list(inputs), paper)
                    self.assertIs(found, free_passes(shift_register, claim, list(inputs), paper))
                    self.assertFalse(found and claim != weight)

    def test_random_papers(self):
        rng = random.Random(14)
        for shift_register in some_registers(15, many=3, memories=(1, 2)):
            weight, inputs = free_way(shift_register)
            for _ in range(50):
                paper = [rng.randrange(-3, 5) for _ in range(2 ** shift_register.memory())]
                self.assert_checked(shift_register, weight, inputs, paper)
