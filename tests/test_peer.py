import copy
import random
import unittest

from farhaul.exchanges.peer import Peer
from reference import raises, spoil


class SlowPeer:
    """A peer, by the words of the points 1303 to 1305."""

    def __init__(self, window, wait):
        self.window, self.wait = window, wait
        self.offered, self.acknowledged, self.times = [], set(), {}
        self.received, self.next, self.owed, self.last = {}, 0, False, None

    def offer(self, data):
        self.offered.append(list(data))
        return len(self.offered) - 1

    def base_number(self):
        return min(self.open_numbers(), default=len(self.offered))

    def next_number(self):
        return self.next

    def open_numbers(self):
        return [k for k in range(len(self.offered)) if k not in self.acknowledged]

    def is_due(self, number, now):
        if number in self.acknowledged or number >= self.base_number() + self.window:
            return False
        return number not in self.times or now - self.times[number] >= self.wait

    def packets(self, now):
        mask = sum(2 ** i for i in range(32) if self.next + 1 + i in self.received)
        due = [k for k in range(len(self.offered)) if self.is_due(k, now)]
        for number in due:
            self.times[number] = now
        found = [(k, list(self.offered[k]), self.next, mask) for k in due]
        if not found and self.owed:
            found = [(None, None, self.next, mask)]
        if found:
            self.owed = False
        return found

    def receive(self, packet):
        number, data, ack, mask = packet
        if ack <= len(self.times):
            self.acknowledged |= set(range(ack))
            self.acknowledged |= {ack + 1 + i for i in range(32) if mask >> i & 1 and ack + 1 + i in self.times}
        if number is None:
            return []
        self.owed = True
        if number >= self.next and number < self.next + self.window:
            self.received.setdefault(number, list(data))
        given = []
        while self.next in self.received:
            given.append(self.received[self.next])
            self.next += 1
        return given


def told(peer):
    return peer.base_number(), peer.next_number(), peer.open_numbers()


def some_data(rng):
    return [rng.randrange(256) for _ in range(rng.randrange(4))]


def some_packet(rng, peer):
    """A packet with numbers that lie near to those of a peer, or far away."""
    number = rng.choice((None, max(0, peer.next + rng.randrange(-3, peer.window + 4)), rng.randrange(2 ** 32)))
    data = None if number is None else some_data(rng)
    ack = rng.choice((0, max(0, len(peer.times) + rng.randrange(-4, 3)), peer.base_number(), rng.randrange(2 ** 32)))
    mask = rng.choice((0, 1, 2 ** 32 - 1, rng.randrange(2 ** 32), 1 << rng.randrange(32)))
    return number, data, ack, mask


class TestErrors(unittest.TestCase):
    def test_out_of_range(self):
        far = 2 ** 40
        for window in (0, -1, 33, far, -far):
            for wait in (0, 1, 1000000, 1000001, -far):
                raises(self, "OutOfRange", 0, Peer, window, wait)
        for window in (1, 32):
            for wait in (0, -1, 1000001, far, -far):
                raises(self, "OutOfRange", 1, Peer, window, wait)
            for wait in (1, 1000000):
                self.assertEqual(told(Peer(window, wait)), (0, 0, []))

    def test_earlier_times(self):
        peer, slow = Peer(3, 5), SlowPeer(3, 5)
        for k in range(4):
            peer.offer([k]), slow.offer([k])
        for now, before in ((-7, (-8, -(2 ** 40))), (-7, (-8,)), (0, (-1, -7)), (4, (3, 0, -1)), (2 ** 40, (2 ** 40 - 1, 0))):
            self.assertEqual(peer.packets(now), slow.packets(now))
            for other in (peer, slow):
                other.receive((0, [1], 0, 0))
            kept = told(peer)
            for earlier in before:
                raises(self, "OutOfRange", 0, peer.packets, earlier)
            self.assertEqual(told(peer), kept)
            # What was owed is owed still.
            self.assertEqual(peer.packets(now), slow.packets(now))
            self.assertEqual(peer.packets(now), [])
            slow.packets(now)


class TestAgainstTheWords(unittest.TestCase):
    def test_any_steps(self):
        rng = random.Random(1303)
        for window in list(range(1, 33)) * 3:
            wait = rng.choice((1, 2, 5, 1000000))
            peer, slow, now = Peer(window, wait), SlowPeer(window, wait), 0
            for _ in range(60):
                step = rng.randrange(4)
                if step == 0:
                    for _ in range(rng.choice((1, 1, 40))):
                        data = some_data(rng)
                        kept = list(data)
                        self.assertEqual(peer.offer(data), slow.offer(kept))
                        self.assertEqual(data, kept)
                        spoil(data)
                elif step == 1:
                    now += rng.choice((0, 0, 1, 2, wait - 1, wait))
                    found = peer.packets(now)
                    self.assertEqual(found, slow.packets(now))
                    self.assertTrue(all(type(packet) is tuple for packet in found))
                    spoil(found)
                else:
                    packet = some_packet(rng, slow)
                    kept = copy.deepcopy(packet)
                    found = peer.receive(packet)
                    self.assertEqual(found, copy.deepcopy(slow.receive(kept)))
                    self.assertEqual(packet, kept)
                    spoil(packet)
                    spoil(found)
                self.assertEqual(told(peer), told(slow))
                spoil(peer.open_numbers())

    def test_copies_go_on_by_themselves(self):
        rng = random.Random(1304)
        for window in range(1, 33, 3):
            peer, now = Peer(window, 3), 0
            slow = SlowPeer(window, 3)
            for _ in range(30):
                other, theirs = peer.copy(), copy.deepcopy(slow)
                self.assertIsInstance(other, Peer)
                for both, rounds in (((other, theirs), 6), ((peer, slow), 2)):
                    later = now
                    for _ in range(rounds):
                        data, packet = some_data(rng), some_packet(rng, both[1])
                        later += rng.randrange(3)
                        self.assertEqual(both[0].offer(data), both[1].offer(data))
                        given = both[0].receive(copy.deepcopy(packet))
                        self.assertEqual(given, copy.deepcopy(both[1].receive(packet)))
                        spoil(given)
                        sent = both[0].packets(later)
                        self.assertEqual(sent, both[1].packets(later))
                        spoil(sent)
                        self.assertEqual(told(both[0]), told(both[1]))
                now = later

    def test_a_copy_keeps_what_waits_and_what_is_owed(self):
        peer = Peer(4, 5)
        peer.offer([1])
        peer.packets(3)
        peer.receive((2, [7], 0, 0))
        peer.receive((1, [6], 0, 0))
        one, two = peer.copy(), peer.copy()
        self.assertEqual(one.packets(3), [(None, None, 0, 3)])
        self.assertEqual(one.receive((0, [5], 0, 0)), [[5], [6], [7]])
        self.assertEqual(two.packets(3), [(None, None, 0, 3)])
        spoil(two.receive((0, [5], 0, 0)))
        self.assertEqual(peer.receive((0, [5], 0, 0)), [[5], [6], [7]])
        raises(self, "OutOfRange", 0, one.packets, 2)
        raises(self, "OutOfRange", 0, peer.copy().packets, 2)
        self.assertEqual(peer.packets(7), [(None, None, 3, 0)])
        self.assertEqual(peer.packets(8), [(0, [1], 3, 0)])


class TestSending(unittest.TestCase):
    def test_window(self):
        for window in (1, 2, 31, 32):
            peer = Peer(window, 10)
            for k in range(40):
                self.assertEqual(peer.offer([k]), k)
            self.assertEqual(peer.packets(0), [(k, [k], 0, 0) for k in range(window)])
            self.assertEqual(peer.packets(9), [])
            peer.receive((None, None, 1, 0))
            self.assertEqual(peer.packets(9), [(window, [window], 0, 0)])
            self.assertEqual((peer.base_number(), peer.open_numbers()), (1, list(range(1, 40))))

    def test_wait(self):
        for wait in (1, 2, 7, 1000000):
            peer = Peer(2, wait)
            for k in range(3):
                peer.offer([k])
            both = [(0, [0], 0, 0), (1, [1], 0, 0)]
            self.assertEqual(peer.packets(5), both)
            if wait > 1:
                self.assertEqual(peer.packets(5 + wait - 1), [])
            self.assertEqual(peer.packets(5 + wait), both)
            self.assertEqual(peer.packets(5 + wait), [])
            self.assertEqual(peer.packets(5 + 3 * wait), both)
            # One that is not sent yet is due at once, and the other one waits on.
            peer.receive((None, None, 1, 0))
            self.assertEqual(peer.packets(5 + 3 * wait), [(2, [2], 0, 0)])
            self.assertEqual(peer.packets(5 + 4 * wait), [(1, [1], 0, 0), (2, [2], 0, 0)])

    def test_acknowledged_by_a_mask(self):
        peer = Peer(5, 1)
        for k in range(8):
            peer.offer([k])
        peer.packets(0)
        # The bit i stands for the message ack + 1 + i; the messages 5 to 7 were not sent.
        peer.receive((None, None, 0, 0b1111101))
        self.assertEqual((peer.base_number(), peer.open_numbers()), (0, [0, 2, 5, 6, 7]))
        self.assertEqual([packet[0] for packet in peer.packets(1)], [0, 2])
        peer.receive((None, None, 1, 0))
        self.assertEqual((peer.base_number(), peer.open_numbers()), (2, [2, 5, 6, 7]))
        self.assertEqual([packet[0] for packet in peer.packets(2)], [2, 5, 6])
        peer.receive((None, None, 7, 0))
        self.assertEqual((peer.base_number(), peer.open_numbers()), (7, [7]))
        peer.packets(3)
        peer.receive((None, None, 8, 2 ** 32 - 1))
        self.assertEqual((peer.base_number(), peer.open_numbers()), (8, []))
        self.assertEqual(peer.offer([8]), 8)
        self.assertEqual((peer.base_number(), peer.open_numbers()), (8, [8]))

    def test_messages_that_were_not_sent(self):
        peer = Peer(2, 1)
        for k in range(4):
            peer.offer([k])
        for ack, mask in ((1, 0), (4, 1), (2 ** 32 - 1, 2 ** 32 - 1), (0, 2 ** 32 - 1)):
            peer.receive((None, None, ack, mask))
            self.assertEqual(peer.open_numbers(), [0, 1, 2, 3])
        peer.packets(0)
        for ack, mask in ((3, 0), (3, 2 ** 32 - 1), (2 ** 32 - 1, 1), (0, 0b1110)):
            peer.receive((None, None, ack, mask))
            self.assertEqual(peer.open_numbers(), [0, 1, 2, 3])
        peer.receive((None, None, 2, 2 ** 32 - 1))
        self.assertEqual(peer.open_numbers(), [2, 3])

    def test_acks_that_are_old(self):
        peer = Peer(4, 1)
        for k in range(4):
            peer.offer([k])
        peer.packets(0)
        peer.receive((None, None, 3, 0))
        for ack, mask in ((0, 0), (1, 0), (2, 0), (0, 3), (1, 1)):
            peer.receive((None, None, ack, mask))
            self.assertEqual((peer.base_number(), peer.open_numbers()), (3, [3]))
        peer.receive((None, None, 1, 0b100))
        self.assertEqual(peer.open_numbers(), [3])
        peer.receive((None, None, 1, 0b10))
        self.assertEqual(peer.open_numbers(), [])
        self.assertEqual(peer.packets(9), [])

    def test_acknowledgements_alone(self):
        peer = Peer(4, 3)
        self.assertEqual(peer.packets(0), [])
        peer.receive((None, None, 0, 0))
        self.assertEqual(peer.packets(0), [])
        for packet, ack, mask in (((0, [], 0, 0), 1, 0), ((0, [], 0, 0), 1, 0), ((3, [3], 0, 0), 1, 2), ((9, [9], 0, 0), 1, 2)):
            peer.receive(packet)
            self.assertEqual(peer.packets(1), [(None, None, ack, mask)])
            self.assertEqual(peer.packets(1), [])
        # A packet with a message acknowledges, too, and nothing is owed behind it.
        peer.receive((1, [1], 0, 0))
        peer.offer([5])
        self.assertEqual(peer.packets(1), [(0, [5], 2, 1)])
        self.assertEqual(peer.packets(2), [])
        peer.receive((1, [1], 0, 0))
        self.assertEqual(peer.packets(3), [(None, None, 2, 1)])


class TestReceiving(unittest.TestCase):
    def test_order(self):
        peer = Peer(4, 1)
        self.assertEqual(peer.receive((2, [2], 0, 0)), [])
        self.assertEqual(peer.receive((1, [1], 0, 0)), [])
        self.assertEqual(peer.receive((1, [9], 0, 0)), [])
        self.assertEqual(peer.next_number(), 0)
        self.assertEqual(peer.receive((0, [0], 0, 0)), [[0], [1], [2]])
        self.assertEqual(peer.receive((0, [0], 0, 0)), [])
        self.assertEqual(peer.receive((2, [8], 0, 0)), [])
        self.assertEqual(peer.next_number(), 3)

    def test_window(self):
        for window in (1, 2, 31, 32):
            peer = Peer(window, 1)
            for number in (window, window + 1, 2 ** 32 - 1):
                self.assertEqual(peer.receive((number, [7], 0, 0)), [])
                self.assertEqual(peer.packets(0), [(None, None, 0, 0)])
            for number in range(1, window):
                peer.receive((number, [number], 0, 0))
            self.assertEqual(peer.packets(0), [(None, None, 0, 2 ** (window - 1) - 1)] if window > 1 else [])
            self.assertEqual(peer.receive((0, [0], 0, 0)), [[k] for k in range(window)])
            # Those beyond the window were not kept.
            self.assertEqual(peer.next_number(), window)
            self.assertEqual(peer.packets(0), [(None, None, window, 0)])
            self.assertEqual(peer.receive((2 * window, [7], 0, 0)), [])
            self.assertEqual(peer.receive((2 * window - 1, [8], 0, 0)), [[8]] if window == 1 else [])


class Line:
    """Packets on their way: lost, late, in another order, several times."""

    def __init__(self, rng, loss):
        self.rng, self.loss, self.on_the_way = rng, loss, []

    def send(self, packets):
        for packet in packets:
            for _ in range(self.rng.choice((1, 1, 2, 3))):
                if self.rng.random() >= self.loss:
                    self.on_the_way.append(copy.deepcopy(packet))

    def arrived(self):
        self.rng.shuffle(self.on_the_way)
        many = self.rng.randrange(len(self.on_the_way) + 1)
        found, self.on_the_way = self.on_the_way[:many], self.on_the_way[many:]
        return found


class TestExchanges(unittest.TestCase):
    def test_each_message_once_and_in_order(self):
        rng = random.Random(1305)
        for window in (1, 2, 3, 8, 31, 32):
            for loss in (0, 0.3, 0.7):
                wait = rng.choice((1, 3))
                peers = [Peer(window, wait), Peer(window, wait)]
                lines = [Line(rng, loss), Line(rng, loss)]
                offered, given, sent_behind = [[], []], [[], []], [set(), set()]
                for now in range(4000):
                    for side in (0, 1):
                        if len(offered[side]) < 25 * (side + 1) and rng.randrange(3) == 0:
                            data = some_data(rng)
                            offered[side].append(data)
                            peers[side].offer(data)
                        for packet in lines[1 - side].arrived():
                            before = set(peers[side].open_numbers())
                            given[side] += peers[side].receive(packet)
                            sent_behind[side] |= before - set(peers[side].open_numbers())
                            # What is given is the first part of what was offered.
                            self.assertEqual(given[side], offered[1 - side][:len(given[side])])
                        packets = peers[side].packets(now)
                        # A message that was acknowledged is never sent again.
                        self.assertFalse(sent_behind[side] & {packet[0] for packet in packets})
                        lines[side].send(packets)
                    if now > 300 and not lines[0].on_the_way and not lines[1].on_the_way:
                        if all(not peer.open_numbers() for peer in peers):
                            break
                self.assertEqual(given, [offered[1], offered[0]])
                self.assertEqual([len(messages) for messages in offered], [25, 50])
                for peer in peers:
                    self.assertEqual(peer.open_numbers(), [])
                    peer.packets(now)
                    self.assertEqual(peer.packets(now + 10 ** 7), [])

    def test_windows_of_other_sizes(self):
        rng = random.Random(1306)
        for one, two in ((1, 32), (32, 1), (5, 9)):
            peers, lines, given = [Peer(one, 1), Peer(two, 1)], [Line(rng, 0.2), Line(rng, 0.2)], [[], []]
            for k in range(40):
                peers[0].offer([k])
            for now in range(2000):
                for side in (0, 1):
                    for packet in lines[1 - side].arrived():
                        given[side] += peers[side].receive(packet)
                    lines[side].send(peers[side].packets(now))
            self.assertEqual(given, [[], [[k] for k in range(40)]])

    def test_many_messages(self):
        one, two = Peer(32, 2), Peer(32, 2)
        for k in range(3000):
            one.offer([k % 256])
        given = []
        for now in range(200):
            for packet in one.packets(now):
                given += two.receive(packet)
            for packet in two.packets(now):
                one.receive(packet)
        self.assertEqual(given, [[k % 256] for k in range(3000)])
        self.assertEqual((one.base_number(), one.open_numbers(), two.next_number()), (3000, [], 3000))
