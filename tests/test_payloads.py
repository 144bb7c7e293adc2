import random
import unittest

from farhaul.links.contents import content, core, payload
from farhaul.links.payloads import check_payload, read_payload, received_lists
from farhaul.paths.mending import mend
from links import (
    payload_passes, plain_plans, plan_of, received_of, register_plans, rows_of, slow_bits, slow_content, slow_read,
    some_data, spoiled_core,
)
from reference import fresh, raises
from test_paths import noisy


class TestReceivedLists(unittest.TestCase):
    def test_received_lists(self):
        rng = random.Random(711)
        for plan in plain_plans() + register_plans():
            size = plan.core_bits()
            for choices in ((0, 1), (0, 1, 1, 0, 1, 0, None), (None,), (0, 1, None)):
                bits = [rng.choice(choices) for _ in range(size)]
                found = fresh(self, received_lists, plan, bits)
                self.assertEqual(found, [received_of(row) for row in rows_of(plan, bits)])
                self.assertTrue(all(type(pair) is tuple for pair in found))
                self.assertEqual(len(found), plan.depth)

    def test_each_wiped_bit(self):
        plan = plan_of(3, 7, 3, 4)
        bits = core(plan, content(plan, 5, [9]))
        for k in range(len(bits)):
            found = received_lists(plan, bits[:k] + [None] + bits[k + 1:])
            place, row = divmod(k // 3, 4)
            self.assertEqual([wiped for _, wiped in found], [[place] if i == row else [] for i in range(4)])
            self.assertEqual(found[row][0][place], 0)

    def test_wrong_sizes(self):
        for plan in plain_plans() + register_plans():
            sizes = {0, 1, plan.core_bits() - 1, plan.core_bits() + 1, plan.room(), plan.payload_bits()}
            for size in sizes - {plan.core_bits()}:
                raises(self, "WrongSize", 0, received_lists, plan, [None] * size)


class TestReading(unittest.TestCase):
    def assert_read(self, plan, received):
        """Test that a payload is read as the document says, and that the paper passes; return what is told."""
        found = fresh(self, read_payload, plan, received)
        if plan.shift_register is None:
            path, numbers, bits = None, None, received
        else:
            path, _, numbers = mend(plan.shift_register, received)
            bits = path
        known = slow_read(plan, bits)
        if known is None:
            self.assertIsNone(found)
            return None
        self.assertIs(type(found), tuple)
        number, data, paper = found
        self.assertEqual((number, data), known)
        self.assertIs(type(paper), tuple)
        self.assertEqual(paper[:2], (path, numbers))
        self.assertIs(fresh(self, check_payload, plan, received, number, data, paper), True)
        self.assertTrue(payload_passes(plan, received, number, data, paper))
        return known

    def test_as_it_was_sent(self):
        rng = random.Random(712)
        for plan in plain_plans() + register_plans():
            for number in (0, 65535, rng.randrange(65536)):
                data = some_data(plan, rng)
                self.assertEqual(self.assert_read(plan, payload(plan, number, data)), (number, data))
                paper = read_payload(plan, payload(plan, number, data))[2]
                self.assertEqual(paper[2], [[] for _ in range(plan.depth)])
                self.assertIs(paper[0] is None, plan.shift_register is None)
                self.assertIs(paper[1] is None, plan.shift_register is None)

    def test_up_to_the_bound(self):
        rng = random.Random(713)
        for plan in plain_plans():
            for _ in range(4):
                number, data = rng.randrange(65536), some_data(plan, rng)
                received = spoiled_core(plan, payload(plan, number, data), rng)
                self.assertEqual(self.assert_read(plan, received), (number, data))

    def test_beyond_the_bound(self):
        rng = random.Random(714)
        lost = 0
        for plan in plain_plans():
            for beyond in (1, 2, 5):
                number, data = rng.randrange(65536), some_data(plan, rng)
                received = spoiled_core(plan, payload(plan, number, data), rng, beyond)
                lost += self.assert_read(plan, received) is None
        self.assertLess(20, lost)

    def test_one_word_alone_is_not_mended(self):
        plan = plan_of(8, 12, 4, 2)
        bits = payload(plan, 5, [1, 2, 3])
        for row in (0, 1):
            received = list(bits)
            for place in range(5):
                received[(place * 2 + row) * 8 + place] = None
                self.assertIs(self.assert_read(plan, received) is None, place == 4)

    def test_all_wiped_and_any_bits(self):
        rng = random.Random(715)
        for plan in plain_plans() + register_plans():
            self.assert_read(plan, [None] * plan.payload_bits())
            self.assert_read(plan, [0] * plan.payload_bits())
            self.assert_read(plan, [rng.choice((0, 1)) for _ in range(plan.payload_bits())])

    def test_all_bits_0_are_a_content(self):
        for plan in plain_plans() + register_plans():
            self.assertEqual(self.assert_read(plan, [0] * plan.payload_bits()), (0, []))
        # With a register, wiped bits are told as bits, and so are those of a payload that is wiped everywhere.
        self.assertEqual(self.assert_read(register_plans()[0], [None] * register_plans()[0].payload_bits()), (0, []))

    def test_words_that_are_no_content(self):
        rng = random.Random(716)
        for plan in plain_plans() + register_plans():
            most = plan.most_bytes()
            lists = []
            for size in (most + 1, 65535):
                lists.append(slow_bits(3, 16) + slow_bits(size, 16) + [0] * (plan.room() - 32))
            bits = slow_content(plan, 3, some_data(plan, rng, most - 1))
            lists.append(bits[:-1] + [1])
            lists.append(bits[:32 + 8 * (most - 1)] + [1] + bits[33 + 8 * (most - 1):])
            for bits in lists:
                words = core(plan, bits)
                if plan.shift_register is None:
                    words = spoiled_core(plan, words, rng)
                else:
                    words = plan.shift_register.ended_row(words)
                self.assertIsNone(self.assert_read(plan, words))

    def test_with_a_register(self):
        rng = random.Random(717)
        for plan in register_plans():
            for turned, wiped in ((0, 0), (1, 0), (3, 2), (10, 10), (40, 0)):
                number, data = rng.randrange(65536), some_data(plan, rng)
                received = noisy(payload(plan, number, data), rng, turned, wiped)
                told = self.assert_read(plan, received)
                if turned + wiped < 2:
                    self.assertEqual(told, (number, data))

    def test_the_code_mends_what_the_path_leaves(self):
        plan = register_plans()[0]
        bits = payload(plan, 300, [77])
        received = list(bits)
        # More turned bits, next to each other, than the register can stand.
        for k in range(40, 45):
            received[k] ^= 1
        path = mend(plan.shift_register, received)[0]
        self.assertNotEqual(plan.shift_register.ended_row(path), bits)
        self.assertEqual(self.assert_read(plan, received), (300, [77]))

    def test_great_plans(self):
        rng = random.Random(718)
        for plan in (plan_of(8, 250, 20, 10), plan_of(8, 255, 254, 5)):
            data = some_data(plan, rng, plan.most_bytes())
            received = spoiled_core(plan, payload(plan, 4242, data), rng)
            number, told, paper = read_payload(plan, received)
            self.assertEqual((number, told), (4242, data))
            self.assertIs(check_payload(plan, received, number, told, paper), True)
        plan = plan_of(7, 119, 20, 12, [19, 29], 4)
        data = some_data(plan, rng, plan.most_bytes())
        received = noisy(payload(plan, 4242, data), rng, 300, 300)
        number, told, paper = read_payload(plan, received)
        self.assertEqual((number, told), (4242, data))
        self.assertIs(check_payload(plan, received, number, told, paper), True)

    def test_wrong_sizes(self):
        for plan in plain_plans() + register_plans():
            paper = (None, None, [])
            for size in (0, plan.payload_bits() - 1, plan.payload_bits() + 1, plan.room()):
                raises(self, "WrongSize", 0, read_payload, plan, [0] * size)
                raises(self, "WrongSize", 0, check_payload, plan, [0] * size, 0, [], paper)
                raises(self, "WrongSize", 0, check_payload, plan, [0] * size, -1, [256], ([], [], []))
            if plan.shift_register is not None:
                raises(self, "WrongSize", 0, read_payload, plan, [0] * plan.core_bits())
                raises(self, "WrongSize", 0, check_payload, plan, [0] * plan.core_bits(), 0, [], paper)


class TestCheck(unittest.TestCase):
    def cases(self, seed):
        rng = random.Random(seed)
        for plan in [plan_of(3, 7, 3, 4), plan_of(4, 15, 4, 1), plan_of(8, 9, 4, 2), plan_of(8, 6, 5, 5),
                     plan_of(2, 3, 1, 10)]:
            number, data = rng.randrange(1, 65535), some_data(plan, rng)
            received = spoiled_core(plan, payload(plan, number, data), rng)
            yield (plan, received) + read_payload(plan, received)
        for plan in register_plans()[:3]:
            number, data = rng.randrange(1, 65535), some_data(plan, rng)
            received = noisy(payload(plan, number, data), rng, 2, 1)
            told = read_payload(plan, received)
            while told is None:
                received = noisy(payload(plan, number, data), rng, 2, 1)
                told = read_payload(plan, received)
            yield (plan, received) + told

    def assert_checked(self, plan, received, number, data, paper):
        found = fresh(self, check_payload, plan, received, number, data, paper)
        self.assertIs(found, payload_passes(plan, received, number, data, paper))
        return found

    def test_other_numbers(self):
        for plan, received, number, data, paper in self.cases(721):
            for other in (number + 1, number - 1, 0, 65535, 65536, 65536 + number, -1, -number, 2 ** 40, number ^ 32768):
                self.assertFalse(self.assert_checked(plan, received, other, data, paper))

    def test_other_data(self):
        for plan, received, number, data, paper in self.cases(722):
            most = plan.most_bytes()
            others = [data + [0], data + [1], [0] + data, [0] * (most + 1), [0] * 70000, data + [0] * (most + 1)]
            if data:
                others += [[], data[:-1], data[1:]]
            for k in range(len(data)):
                for byte in (data[k] ^ 1, data[k] ^ 128, 256, 256 + data[k], -1, data[k] - 256, 2 ** 40):
                    others.append(data[:k] + [byte] + data[k + 1:])
            for other in others:
                self.assertFalse(self.assert_checked(plan, received, number, other, paper))

    def test_other_corrections(self):
        for plan, received, number, data, paper in self.cases(723):
            path, numbers, corrections = paper
            others = [[], corrections[1:], corrections[:-1], corrections + [[]], [[]] + corrections,
                      corrections + [corrections[-1]], corrections + corrections]
            for i, pairs in enumerate(corrections):
                others.append(corrections[:i] + corrections[i + 1:])
                others.append(corrections[:i] + [pairs, pairs] + corrections[i + 1:])
                if pairs:
                    others.append(corrections[:i] + [[]] + corrections[i + 1:])
                for k, (place, symbol) in enumerate(pairs):
                    rests = [[], [(place, symbol)] * 2, [(place, symbol ^ 1)], [(place, 0)], [(place, -symbol)],
                             [(place + 1, symbol)], [(place - 1, symbol)], [(place - plan.code.n, symbol)],
                             [(place, symbol + plan.code.field.size())], [(2 ** 40, symbol)], [(place, 2 ** 40)]]
                    for rest in rests:
                        others.append(corrections[:i] + [pairs[:k] + rest + pairs[k + 1:]] + corrections[i + 1:])
                if len(pairs) > 1:
                    others.append(corrections[:i] + [pairs[::-1]] + corrections[i + 1:])
                for j in range(i):
                    if corrections[i] != corrections[j]:
                        exchanged = list(corrections)
                        exchanged[i], exchanged[j] = corrections[j], corrections[i]
                        others.append(exchanged)
                others.append(corrections[:i] + [pairs + [(plan.code.n - 1, 1)]] + corrections[i + 1:])
            for other in others:
                self.assertFalse(self.assert_checked(plan, received, number, data, (path, numbers, other)))

    def test_path_without_a_register(self):
        for plan, received, number, data, paper in self.cases(724):
            if plan.shift_register is None:
                bits = [bit or 0 for bit in received]
                for path, numbers in (([], []), (bits, None), (None, []), (None, [[0]]), (bits, [[0]]), ([], None)):
                    self.assertFalse(self.assert_checked(plan, received, number, data, (path, numbers, paper[2])))

    def test_path_left_out(self):
        for plan, received, number, data, paper in self.cases(725):
            if plan.shift_register is not None:
                path, numbers, corrections = paper
                for one, two in ((None, None), (None, numbers), (path, None), ([], numbers), (path, []), ([], [])):
                    self.assertFalse(self.assert_checked(plan, received, number, data, (one, two, corrections)))
                for other in (path[1:], path + [0], path[:-1], path + path, [2] + path[1:], [-1] + path[1:],
                              [2 ** 40] + path[1:]):
                    self.assertFalse(self.assert_checked(plan, received, number, data, (other, numbers, corrections)))

    def test_path_changed(self):
        for plan, received, number, data, paper in self.cases(726):
            if plan.shift_register is None:
                continue
            path, numbers, corrections = paper
            for k in range(0, len(path), 5):
                other = path[:k] + [1 - path[k]] + path[k + 1:]
                self.assertFalse(self.assert_checked(plan, received, number, data, (other, numbers, corrections)))
            for step in range(0, len(numbers), 7):
                for state, told in enumerate(numbers[step]):
                    if told is not None:
                        for change in (told + 1, None, 2 ** 40):
                            row = numbers[step][:state] + [change] + numbers[step][state + 1:]
                            other = numbers[:step] + [row] + numbers[step + 1:]
                            paper = (path, other, corrections)
                            self.assertFalse(self.assert_checked(plan, received, number, data, paper))
            for other in (numbers[1:], numbers[:-1], numbers + [numbers[-1]], [row[1:] for row in numbers]):
                self.assertFalse(self.assert_checked(plan, received, number, data, (path, other, corrections)))

    def test_other_payloads(self):
        rng = random.Random(727)
        for plan, received, number, data, paper in self.cases(728):
            for k in rng.sample(range(len(received)), 25):
                for bit in (0, 1, None):
                    other = received[:k] + [bit] + received[k + 1:]
                    self.assert_checked(plan, other, number, data, paper)

    def test_corrected_words_of_another_content(self):
        # Each list is a word, but the words are those of another number and other data.
        for plan in (plan_of(4, 15, 4, 1), plan_of(8, 9, 4, 2)):
            received = payload(plan, 9, [8])
            paper = (None, None, [[] for _ in range(plan.depth)])
            self.assertTrue(self.assert_checked(plan, received, 9, [8], paper))
            for number, data in ((8, [8]), (9, [9]), (9, [])):
                self.assertFalse(self.assert_checked(plan, received, number, data, paper))
