import random
import unittest

from farhaul.links.contents import payload
from farhaul.links.link import Receiver, Sender
from farhaul.links.payloads import read_payload
from links import MARK, plain_plans, plan_of, register_plans, some_data, spoiled_core
from reference import raises, spoil
from test_finder import slow_found
from test_follower import parts_of
from test_paths import noisy


def slow_events(plan, bits):
    """The events of all frames that are found, each with the number of bits behind which it is told."""
    events = []
    for place, received, end in slow_found(plan.mark, plan.tolerance, plan.payload_bits(), bits)[0]:
        told = read_payload(plan, received)
        events.append((("lost", place) if told is None else ("message", place) + told[:2], end))
    return events


class TestSender(unittest.TestCase):
    def test_frames(self):
        rng = random.Random(801)
        for plan in plain_plans()[::2] + register_plans():
            for first in (0, 1, 65534, 65535, rng.randrange(65536)):
                sender = Sender(plan, first)
                for k in range(4):
                    number = (first + k) % 65536
                    self.assertEqual(sender.next_number(), number)
                    data = some_data(plan, rng)
                    kept = list(data)
                    self.assertEqual(sender.send(data), plan.mark + payload(plan, number, data))
                    self.assertEqual(data, kept)

    def test_first_number(self):
        plan = plan_of(4, 15, 4, 1)
        self.assertEqual(Sender(plan).next_number(), 0)
        self.assertEqual(Sender(plan, number=9).next_number(), 9)
        for number in (-1, 65536, 65537, 2 ** 40, -(2 ** 40)):
            raises(self, "OutOfRange", 0, Sender, plan, number)

    def test_65535_is_followed_by_0(self):
        sender = Sender(plan_of(4, 15, 4, 1), 65535)
        sender.send([1])
        self.assertEqual(sender.next_number(), 0)
        sender.send([1])
        self.assertEqual(sender.next_number(), 1)

    def test_idle_bits(self):
        sender = Sender(plan_of(4, 15, 4, 1), 5)
        for count in (0, 1, 77, 10000):
            bits = sender.idle(count)
            self.assertEqual(bits, [0] * count)
            spoil(bits)
            self.assertEqual(sender.idle(count), [0] * count)
        for count in (-1, 10001, 2 ** 40, -(2 ** 40)):
            raises(self, "OutOfRange", 0, sender.idle, count)
        self.assertEqual(sender.next_number(), 5)

    def test_a_refused_frame_takes_no_number(self):
        for plan in (plan_of(4, 15, 4, 1), plan_of(8, 12, 4, 2), register_plans()[2]):
            sender = Sender(plan, 65535)
            most = plan.most_bytes()
            raises(self, "WrongSize", 0, sender.send, [0] * (most + 1))
            raises(self, "WrongSize", 0, sender.send, [-1] * (most + 1))
            for k in range(most):
                raises(self, "BadByte", k, sender.send, [0] * k + [256] + [-1] * (most - k - 1))
                raises(self, "BadByte", k, sender.send, [0] * k + [-1])
            self.assertEqual(sender.next_number(), 65535)
            self.assertEqual(sender.send([]), plan.mark + payload(plan, 65535, []))
            self.assertEqual(sender.next_number(), 0)

    def test_results_and_the_plan_are_copied(self):
        plan = plan_of(4, 15, 4, 1)
        known = plan.mark + payload(plan, 7, [1])
        sender, other = Sender(plan, 7), Sender(plan, 7)
        plan.mark.append(1)
        spoil(sender.send([1]))
        sender.send([1])
        self.assertEqual(other.send([1]), known)
        self.assertEqual(sender.send([1])[:13], MARK)


class TestReceiver(unittest.TestCase):
    def assert_events(self, plan, bits, rng):
        known = slow_events(plan, bits)
        for most in (3, 40, len(bits)):
            receiver, taken, told = Receiver(plan), 0, 0
            for part in parts_of(bits, rng, most):
                kept = list(part)
                events = receiver.feed(part)
                self.assertEqual(part, kept)
                taken += len(part)
                self.assertEqual(receiver.taken(), taken)
                now = [event for event, end in known[told:] if end <= taken]
                self.assertEqual(events, now)
                self.assertTrue(all(type(event) is tuple for event in events))
                told += len(now)
            self.assertEqual(told, len(known))
        return [event for event, _ in known]

    def test_nothing(self):
        receiver = Receiver(plan_of(4, 15, 4, 1))
        self.assertEqual((receiver.feed([]), receiver.taken()), ([], 0))
        self.assertEqual(receiver.feed([0, None, 1]), [])
        self.assertEqual(receiver.taken(), 3)

    def test_what_was_sent_arrives(self):
        rng = random.Random(802)
        for plan in plain_plans() + register_plans():
            sender, bits, known = Sender(plan, 65534), [], []
            for k in range(4):
                bits += sender.idle(rng.choice((0, 0, 1, 5, 30)))
                data = some_data(plan, rng)
                known.append(("message", len(bits), (65534 + k) % 65536, data))
                bits += sender.send(data)
            bits += sender.idle(3)
            self.assertEqual(self.assert_events(plan, bits, rng), known)

    def test_within_the_bounds(self):
        rng = random.Random(803)
        for plan in [plan_of(m, n, checks, depth, tolerance=2) for m, n, checks, depth in
                     ((2, 3, 1, 16), (3, 7, 3, 4), (4, 15, 4, 1), (5, 20, 6, 2), (8, 12, 4, 2), (8, 9, 4, 1))]:
            sender, bits, known = Sender(plan, rng.randrange(65536)), [], []
            for k in range(4):
                idle = sender.idle(rng.choice((0, 0, 7, 20)))
                data = some_data(plan, rng)
                known.append(("message", len(bits) + len(idle), sender.next_number(), data))
                frame = sender.send(data)
                # Idle bits and a mark: of any 13 that follow each other at most two are changed.
                head = idle + frame[:13]
                for place in sorted(rng.sample(range(len(head)), 2)):
                    head[place] = rng.choice((1 - head[place], None))
                bits += head + spoiled_core(plan, frame[13:], rng)
            self.assertEqual(self.assert_events(plan, bits, rng), known)

    def test_lost_frames(self):
        rng = random.Random(804)
        for plan in plain_plans()[2:8] + register_plans()[:2]:
            sender, bits, known = Sender(plan, 3), [], []
            for k in range(4):
                bits += sender.idle(k)
                place, data = len(bits), some_data(plan, rng)
                frame = sender.send(data)
                if k % 2 and plan.shift_register is None:
                    frame[13:] = [None] * plan.payload_bits()
                elif k % 2:
                    # These words are no content.
                    frame[13:] = plan.shift_register.ended_row([1] * plan.core_bits())
                bits += frame
                readable = read_payload(plan, frame[13:])
                known.append(("lost", place) if readable is None else ("message", place, k + 3, data))
            events = self.assert_events(plan, bits, rng)
            self.assertEqual(events, known)
            self.assertIn("lost", [event[0] for event in events])
            self.assertIn("message", [event[0] for event in events])

    def test_any_bits(self):
        rng = random.Random(805)
        for plan in (plan_of(4, 15, 4, 1, mark=[1], tolerance=0), plan_of(4, 15, 4, 1, mark=[1, 0, 1], tolerance=1),
                     plan_of(3, 7, 3, 4, mark=[0, 0], tolerance=0), plan_of(2, 3, 1, 10, mark=[1] * 32, tolerance=40),
                     plan_of(4, 15, 4, 1, [7, 5], mark=[1, 1, 0], tolerance=0)):
            for choices in ((0, 1), (0, 1, None), (0, 0, 0, 1)):
                self.assert_events(plan, [rng.choice(choices) for _ in range(700)], rng)

    def test_with_a_register(self):
        rng = random.Random(806)
        for plan in register_plans():
            sender, bits = Sender(plan), []
            for k in range(3):
                bits += sender.idle(k)
                bits += plan.mark + noisy(sender.send(some_data(plan, rng))[13:], rng, 4, 4)
            self.assertEqual(len(self.assert_events(plan, bits, rng)), 3)

    def test_copies(self):
        rng = random.Random(807)
        plan = plan_of(4, 15, 4, 1, tolerance=1)
        sender, bits = Sender(plan, 65535), []
        for k in range(3):
            bits += sender.idle(4) + sender.send(some_data(plan, rng))
        for cut in range(0, len(bits), 9):
            receiver = Receiver(plan)
            first = receiver.feed(bits[:cut])
            other = receiver.copy()
            self.assertIsInstance(other, Receiver)
            known = [event for event, _ in slow_events(plan, bits)]
            self.assertEqual(first + receiver.feed(bits[cut:]), known)
            self.assertEqual((other.taken(), receiver.taken()), (cut, len(bits)))
            third = other.copy()
            changed = bits[:cut] + [0] * 100
            known = [event for event, _ in slow_events(plan, changed)]
            self.assertEqual(first + other.feed([0] * 100), known)
            known = [event for event, _ in slow_events(plan, bits)]
            self.assertEqual(first + third.feed(bits[cut:]), known)

    def test_results_and_the_plan_are_copied(self):
        plan = plan_of(8, 9, 4, 1)
        frame = Sender(plan, 7).send([1])
        receiver = Receiver(plan)
        plan.mark[0] = 0
        events = receiver.feed(frame + frame)
        self.assertEqual(events, [("message", 0, 7, [1]), ("message", len(frame), 7, [1])])
        spoil(events)
        part = frame[:50]
        receiver.feed(part)
        spoil(part)
        self.assertEqual(receiver.feed(frame[50:]), [("message", 2 * len(frame), 7, [1])])
