"""Packets: tuples of a number and its data, or None for both, and of an ack and its mask."""

from farhaul.ranges import all_below


def write_packet(packet):
    """Return the list of bytes with which a packet is written."""
    number, data, ack, mask = packet
    head = _bytes_of(ack) + _bytes_of(mask)
    if number is None:
        return [0] + head
    return [1] + head + _bytes_of(number) + data


def read_packet(data):
    """Return the packet that is written as a list of bytes, or None if none is written so."""
    if not all_below(data, 256):
        return None
    ack, mask = _number_of(data[1:5]), _number_of(data[5:9])
    if data[:1] == [1] and len(data) >= 13:
        return _number_of(data[9:13]), data[13:], ack, mask
    if data[:1] == [0] and len(data) == 9:
        return None, None, ack, mask
    return None


def _bytes_of(number):
    """Return the four bytes of a number, the lowest first."""
    return [number >> shift & 255 for shift in (0, 8, 16, 24)]


def _number_of(four):
    """Return the number with these bytes, the lowest first."""
    return sum([byte << 8 * k for k, byte in enumerate(four)])
