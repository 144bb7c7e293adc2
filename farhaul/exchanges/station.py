"""Stations: peers that exchange their packets in the frames of a plan."""

from farhaul.errors import TooSmall
from farhaul.exchanges.packets import read_packet, write_packet
from farhaul.exchanges.peer import Peer
from farhaul.links.contents import need_bytes
from farhaul.links.link import Receiver, Sender

LEAST_ROOM = 144
HEAD_BYTES = 13


class Station:
    """A peer with a sender and a receiver."""

    def __init__(self, plan, window, wait):
        self._peer = Peer(window, wait)
        if plan.room() < LEAST_ROOM:
            raise TooSmall(plan.room())
        self._most = plan.most_bytes() - HEAD_BYTES
        self._sender = Sender(plan)
        self._receiver = Receiver(plan)

    def offer(self, data):
        """Offer a message, and return its number."""
        need_bytes(data, self._most)
        return self._peer.offer(data)

    def bits(self, now):
        """Return the bits of the frames of the packets that are sent at a time."""
        bits = []
        for packet in self._peer.packets(now):
            bits.extend(self._sender.send(write_packet(packet)))
        return bits

    def feed(self, bits):
        """Take bits that arrive, and return the list of the data of the messages that are given now."""
        given = []
        for event in self._receiver.feed(bits):
            packet = read_packet(event[3]) if event[0] == "message" else None
            if packet is not None:
                given.extend(self._peer.receive(packet))
        return given

    def peer(self):
        """Return a copy of the peer."""
        return self._peer.copy()
