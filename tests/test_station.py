import random
import unittest

from farhaul.exchanges.packets import read_packet, write_packet
from farhaul.exchanges.peer import Peer
from farhaul.exchanges.station import Station
from farhaul.links.contents import payload
from farhaul.links.link import Receiver, Sender
from farhaul.links.plans import Plan
from links import MARK, plan_of, some_data, spoiled_core
from reference import raises, spoil
from test_follower import parts_of
from test_paths import noisy
from test_peer import SlowPeer, told


def some_plans():
    return [plan_of(8, 22, 4, 1), plan_of(4, 15, 6, 4, tolerance=2), plan_of(8, 40, 10, 2, first=7, tolerance=1),
            plan_of(4, 15, 5, 4, [7, 5]), plan_of(6, 30, 6, 1, [13, 15, 11], 3)]


class SlowStation:
    """A station by the words of point 1307: a peer by the words, and the payloads of its packets."""

    def __init__(self, plan, window, wait):
        self.plan, self.peer = plan, SlowPeer(window, wait)
        self.number, self.receiver = 0, Receiver(plan)

    def bits(self, now):
        bits = []
        for packet in self.peer.packets(now):
            bits += self.plan.mark + payload(self.plan, self.number, write_packet(packet))
            self.number = (self.number + 1) % 65536
        return bits

    def feed(self, bits):
        given = []
        for event in self.receiver.feed(bits):
            packet = read_packet(event[3]) if event[0] == "message" else None
            if packet is not None:
                given += [list(data) for data in self.peer.receive(packet)]
        return given


def spoiled_frame(plan, frame, rng):
    """A frame with turned and wiped bits within the bounds of the plan."""
    mark, rest = frame[:len(plan.mark)], frame[len(plan.mark):]
    many = rng.randrange(plan.tolerance + 1)
    if plan.shift_register is None:
        return noisy(mark, rng, many, 0) + spoiled_core(plan, rest, rng)
    return noisy(mark, rng, 0, many) + noisy(rest, rng, 2, 1)


class TestErrors(unittest.TestCase):
    def test_errors_of_a_peer_come_first(self):
        small = plan_of(8, 9, 4, 1)
        for plan in (small, some_plans()[0]):
            for window in (0, -1, 33, 2 ** 40):
                for wait in (1, 0, 1000001):
                    raises(self, "OutOfRange", 0, Station, plan, window, wait)
            for wait in (0, -1, 1000001, -(2 ** 40)):
                raises(self, "OutOfRange", 1, Station, plan, 1, wait)
        for window in (1, 32):
            raises(self, "TooSmall", 40, Station, small, window, 1000000)

    def test_rooms(self):
        for plan in (plan_of(8, 9, 4, 1), plan_of(8, 21, 4, 1), plan_of(7, 24, 4, 1), plan_of(2, 3, 1, 16),
                     plan_of(3, 7, 3, 11), plan_of(8, 22, 4, 1), plan_of(4, 15, 6, 4), plan_of(3, 7, 1, 8)):
            if plan.room() < 144:
                raises(self, "TooSmall", plan.room(), Station, plan, 4, 4)
            else:
                station = Station(plan, 4, 4)
                self.assertEqual(station.offer([0] * (plan.most_bytes() - 13)), 0)
        self.assertEqual(plan_of(8, 22, 4, 1).room(), 144)
        self.assertEqual(plan_of(4, 15, 6, 4).room(), 144)

    def test_offers(self):
        for plan in some_plans():
            station = Station(plan, 4, 4)
            most = plan.most_bytes() - 13
            for data in ([0] * (most + 1), [-1] * (most + 1), [256] * (most + 50)):
                raises(self, "WrongSize", 0, station.offer, data)
            for bad in (-1, 256, 2 ** 40, -(2 ** 40)):
                raises(self, "BadByte", 0, station.offer, [bad])
                raises(self, "BadByte", most - 1, station.offer, [255] * (most - 1) + [bad])
                if most > 1:
                    raises(self, "BadByte", 0, station.offer, [bad] * 2)
            self.assertEqual(told(station.peer()), (0, 0, []))
            self.assertEqual(station.bits(0), [])
            self.assertEqual([station.offer(data) for data in ([], [0], [255] * most)], [0, 1, 2])

    def test_earlier_times(self):
        for plan in some_plans()[:2]:
            station, slow = Station(plan, 4, 4), SlowStation(plan, 4, 4)
            station.offer([1])
            slow.peer.offer([1])
            self.assertEqual(station.bits(5), slow.bits(5))
            for now in (4, 0, -1):
                raises(self, "OutOfRange", 0, station.bits, now)
            station.offer([2])
            slow.peer.offer([2])
            # The number of the next frame is as it was.
            self.assertEqual(station.bits(5), slow.bits(5))


class TestStation(unittest.TestCase):
    def test_frames_of_packets(self):
        rng = random.Random(1307)
        for plan in some_plans():
            station, slow = Station(plan, 3, 2), SlowStation(plan, 3, 2)
            for now in range(12):
                data = some_data(plan, rng, rng.randrange(plan.most_bytes() - 12))
                kept = list(data)
                self.assertEqual(station.offer(data), slow.peer.offer(kept))
                self.assertEqual(data, kept)
                spoil(data)
                bits = station.bits(now)
                self.assertEqual(bits, slow.bits(now))
                spoil(bits)
                packet = (now, [now], max(0, now - 2), 0)
                frame = plan.mark + payload(plan, 7, write_packet(packet))
                given = station.feed(frame)
                self.assertEqual(given, slow.feed(frame))
                spoil(given)
                self.assertEqual(told(station.peer()), told(slow.peer))

    def test_each_packet_is_the_data_of_a_frame(self):
        plan = some_plans()[2]
        station = Station(plan, 32, 5)
        for k in range(40):
            station.offer([k, k + 1])
        receiver = Receiver(plan)
        events = receiver.feed(station.bits(3))
        size = len(plan.mark) + plan.payload_bits()
        self.assertEqual(events, [("message", k * size, k, write_packet((k, [k, k + 1], 0, 0))) for k in range(32)])

    def test_frames_that_are_no_packets(self):
        rng = random.Random(1308)
        for plan in some_plans():
            station, sender = Station(plan, 4, 4), Sender(plan, 99)
            good = write_packet((0, [7], 0, 0))
            line = []
            for data in ([], [0], [1] * 12, [2] + good[1:], [0] * 10, [0] + good[1:], [255] * 14):
                self.assertIsNone(read_packet(data))
                line += sender.send(data)
            self.assertEqual(station.feed(line), [])
            self.assertEqual(station.bits(0), [])
            # A frame that cannot be read, then a good one.
            frame = sender.send(good)
            lost = frame[:len(plan.mark)] + [None] * plan.payload_bits()
            lost[-1] = 1 if plan.shift_register is None else None
            told_now = station.feed(lost + [0] * rng.randrange(9) + frame)
            self.assertEqual(told_now[-1:], [[7]])

    def test_parts_and_idle_bits(self):
        rng = random.Random(1309)
        for plan in some_plans():
            one = Station(plan, 8, 3)
            for k in range(5):
                one.offer([k] * (k % 2))
            line = [0] * 40 + one.bits(0) + [0] * 30
            whole = Station(plan, 8, 3)
            messages = whole.feed(line)
            self.assertEqual(messages, [[k] * (k % 2) for k in range(5)])
            for most in (1, 9, 200):
                station, given = Station(plan, 8, 3), []
                for part in parts_of(line, rng, most):
                    kept = list(part)
                    given += station.feed(part)
                    self.assertEqual(part, kept)
                self.assertEqual(given, messages)
                self.assertEqual(told(station.peer()), told(whole.peer()))
                self.assertEqual(station.bits(1), plan.mark + payload(plan, 0, write_packet((None, None, 5, 0))))

    def test_peer_is_a_copy(self):
        plan = some_plans()[0]
        station, other = Station(plan, 4, 4), Station(plan, 4, 4)
        other.offer([9])
        frame = other.bits(0)
        for k in range(6):
            station.offer([k % 2])
        peer = station.peer()
        self.assertIsInstance(peer, Peer)
        self.assertEqual(told(peer), (0, 0, [0, 1, 2, 3, 4, 5]))
        peer.offer([1, 2, 3])
        peer.packets(1000)
        peer.receive((0, [5], 2, 0))
        self.assertEqual(told(station.peer()), (0, 0, [0, 1, 2, 3, 4, 5]))
        self.assertEqual(station.feed(frame), [[9]])
        self.assertEqual(told(peer), (2, 1, [2, 3, 4, 5, 6]))
        self.assertEqual(told(station.peer()), (0, 1, [0, 1, 2, 3, 4, 5]))
        self.assertEqual(len(station.bits(3)), 4 * len(frame))

    def test_the_plan_is_copied(self):
        plan = plan_of(8, 22, 4, 1)
        station = Station(plan, 4, 4)
        plan.mark.append(1)
        plan.depth = 3
        station.offer([5])
        plain = Plan(plan.code, 1, None, MARK, 0)
        self.assertEqual(station.bits(0), MARK + payload(plain, 0, write_packet((0, [5], 0, 0))))
        raises(self, "WrongSize", 0, station.offer, [1] * (plain.most_bytes() - 12))


class TestExchanges(unittest.TestCase):
    def exchange(self, plan, window, wait, rng, loss):
        """Two stations over a line that turns and wipes bits, and loses frames; returns what they gave."""
        stations = [Station(plan, window, wait), Station(plan, window, wait)]
        offered, given, ways = [[], []], [[], []], [[], []]
        size = len(plan.mark) + plan.payload_bits()
        for now in range(400):
            for side in (0, 1):
                if len(offered[side]) < 9 + 3 * side and rng.randrange(2) == 0:
                    data = some_data(plan, rng, rng.randrange(plan.most_bytes() - 12))
                    offered[side].append(data)
                    stations[side].offer(data)
                bits = stations[side].bits(now)
                self.assertEqual(len(bits) % size, 0)
                line = []
                for k in range(0, len(bits), size):
                    line += [0] * rng.randrange(20)
                    if rng.random() >= loss:
                        line += spoiled_frame(plan, bits[k:k + size], rng)
                    elif rng.randrange(2):
                        # The mark arrives, but what is behind it cannot be read.
                        line += plan.mark + [None] * plan.payload_bits()
                if rng.randrange(4) == 0:
                    line += [0] * 13 + plan.mark + payload(plan, 5, [9, 9, 9])
                ways[side].append(line)
            for side in (0, 1):
                for part in parts_of(ways[1 - side].pop(), rng, 300):
                    given[side] += stations[side].feed(part)
                self.assertEqual(given[side], offered[1 - side][:len(given[side])])
            if now > 40 and all(not station.peer().open_numbers() for station in stations):
                break
        self.assertEqual(given, [offered[1], offered[0]])
        self.assertEqual([len(messages) for messages in offered], [9, 12])
        for station in stations:
            station.bits(now)
            self.assertEqual(station.bits(now + 10 ** 7), [])

    def test_over_a_spoiled_line(self):
        rng = random.Random(1310)
        for plan in some_plans()[:3]:
            for window, wait, loss in ((1, 1, 0.2), (4, 2, 0.4), (32, 3, 0)):
                self.exchange(plan, window, wait, rng, loss)

    def test_with_a_register(self):
        rng = random.Random(1311)
        self.exchange(some_plans()[3], 4, 2, rng, 0.2)

    def test_frame_numbers(self):
        plan = some_plans()[0]
        one, two = Station(plan, 1, 1), Station(plan, 1, 1)
        receiver = Receiver(plan)
        for k in range(30):
            one.offer([k])
            bits = one.bits(k)
            self.assertEqual([event[2:] for event in receiver.feed(bits)], [(k, write_packet((k, [k], 0, 0)))])
            self.assertEqual(two.feed(bits), [[k]])
            self.assertEqual(one.feed(two.bits(k)), [])
