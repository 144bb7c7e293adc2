"""Finite fields with 4 to 256 elements."""

from math import gcd

from farhaul.errors import NoInverse, NotIrreducible, OutOfRange
from farhaul.fields.binary import degree, is_irreducible, product_rest


class Field:
    """The field of an irreducible binary polynomial of the degree m, its modulus."""

    def __init__(self, m, modulus):
        if m < 2 or m > 8:
            raise OutOfRange(m)
        if modulus < 0 or degree(modulus) != m or not is_irreducible(modulus):
            raise NotIrreducible(modulus)
        self._bits = m
        self._modulus = modulus
        self._turn = (1 << m) - 1
        self._powers = _root_powers(self._turn, modulus)
        # The sum of two logarithms is the index of the product; that of 0 leads behind all powers.
        self._logs = [2 * self._turn] * (1 << m)
        for k, e in enumerate(self._powers):
            self._logs[e] = k
        self._products = self._powers + self._powers + [0] * (2 * self._turn + 1)

    def bits(self):
        """Return the number of bits of an element."""
        return self._bits

    def modulus(self):
        """Return the modulus."""
        return self._modulus

    def size(self):
        """Return the number of elements."""
        return self._turn + 1

    def add(self, e, f):
        """Return the sum."""
        return e ^ f

    def times(self, e, f):
        """Return the product."""
        return self._products[self._logs[e] + self._logs[f]]

    def inverse(self, e):
        """Return the inverse."""
        return self._powers[-self.log(e) % self._turn]

    def power(self, e, k):
        """Return the power with the exponent k, any integer."""
        if k == 0:
            return 1
        if e == 0 and k > 0:
            return 0
        return self._powers[self.log(e) * k % self._turn]

    def order(self, e):
        """Return the least k from 1 on such that the power k of the element is 1."""
        return self._turn // gcd(self._turn, self.log(e))

    def log(self, e):
        """Return the exponent from 0 on with which the root gives the element."""
        if e == 0:
            raise NoInverse(0)
        return self._logs[e]

    def root(self):
        """Return the least primitive element."""
        return self._powers[1]

    def scaled(self, items, e):
        """Return the list of the products of some elements with an element."""
        logs, products, shift = self._logs, self._products, self._logs[e]
        return [products[logs[f] + shift] for f in items]

    def dot(self, items, others):
        """Return the sum of the products of the elements of two lists, up to the end of one of them."""
        logs, products = self._logs, self._products
        total = 0
        for e, f in zip(items, others):
            total ^= products[logs[e] + logs[f]]
        return total

    def value(self, items, e):
        """Return the value at an element of the polynomial with these coefficients, the lowest first."""
        logs, products, shift = self._logs, self._products, self._logs[e]
        total = 0
        for f in reversed(items):
            total = products[logs[total] + shift] ^ f
        return total


def _root_powers(turn, modulus):
    """Return the powers 0 to turn - 1 of the least element that has so many different ones."""
    e = 2
    powers = _powers_of(e, modulus)
    while len(powers) < turn:
        e += 1
        powers = _powers_of(e, modulus)
    return powers


def _powers_of(e, modulus):
    """Return all different powers of an element other than 0, from the power 0 on."""
    powers = [1]
    power = e
    while power != 1:
        powers.append(power)
        power = product_rest(power, e, modulus)
    return powers
