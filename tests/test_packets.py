import itertools
import random
import unittest

from farhaul.exchanges.packets import read_packet, write_packet
from reference import fresh

TOP = 2 ** 32 - 1


def some_packets(rng, many=60):
    numbers = (0, 1, 255, 256, 65535, 65536, 2 ** 24, 2 ** 31, TOP)
    found = [(None, None, ack, mask) for ack in numbers for mask in numbers]
    for _ in range(many):
        data = [rng.choice((0, 255, rng.randrange(256))) for _ in range(rng.randrange(12))]
        found.append((rng.choice(numbers), data, rng.choice(numbers), rng.randrange(TOP + 1)))
    return found


def slow_bytes(packet):
    """The bytes of point 1302."""
    number, data, ack, mask = packet
    numbers = [ack, mask] if number is None else [ack, mask, number]
    found = [0 if number is None else 1]
    for k in numbers:
        found += list(k.to_bytes(4, "little"))
    return found + (data or [])


class TestPackets(unittest.TestCase):
    def test_written_and_read(self):
        for packet in some_packets(random.Random(1301)):
            written = fresh(self, write_packet, packet)
            self.assertEqual(written, slow_bytes(packet))
            found = fresh(self, read_packet, written)
            self.assertIs(type(found), tuple)
            self.assertEqual(found, packet)

    def test_known_packets(self):
        self.assertEqual(write_packet((None, None, 258, 3)), [0, 2, 1, 0, 0, 3, 0, 0, 0])
        self.assertEqual(write_packet((7, [9, 8], 1, TOP)), [1, 1, 0, 0, 0, 255, 255, 255, 255, 7, 0, 0, 0, 9, 8])
        self.assertEqual(read_packet([1] + [0] * 12), (0, [], 0, 0))
        self.assertEqual(read_packet([0, 0, 0, 0, 1, 0, 0, 0, 2]), (None, None, 2 ** 24, 2 ** 25))

    def test_sizes(self):
        for size in range(30):
            rest = [k % 256 for k in range(size)]
            self.assertIs(read_packet([0] + rest) is None, size != 8)
            self.assertIs(read_packet([1] + rest) is None, size < 12)
        self.assertIsNone(read_packet([]))

    def test_other_first_bytes(self):
        for first in list(range(2, 256)) + [-1, 256, 257, TOP, -(2 ** 40)]:
            for size in (0, 8, 12, 20):
                self.assertIsNone(fresh(self, read_packet, [first] + [0] * size))

    def test_what_is_no_byte(self):
        for written in ([0] * 9, [1] + [0] * 12, [1] + [5] * 20):
            for place in range(len(written)):
                for other in (-1, 256, 257, 2 ** 40, -(2 ** 40)):
                    self.assertIsNone(read_packet(written[:place] + [other] + written[place + 1:]))
                self.assertIsNotNone(read_packet(written[:place] + [written[place]] + written[place + 1:]))

    def test_reading_leads_back(self):
        rng = random.Random(1302)
        for size in itertools.chain(range(20), (300, 2000)):
            for first in (0, 1, 2):
                written = [first] + [rng.randrange(256) for _ in range(size)]
                found = read_packet(written)
                if found is not None:
                    self.assertEqual(write_packet(found), written)
