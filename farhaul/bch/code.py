"""BCH codes: lists of bits whose binary polynomials are multiples of a generator."""

from farhaul.bch.minimal import minimal
from farhaul.errors import OutOfRange, TooLarge, WrongSize
from farhaul.fields.binary import degree, divide, times


class BchCode:
    """The code of n bits with the roots a ** first to a ** (first + design - 2)."""

    def __init__(self, field, n, first, design):
        if n < 2 or n > field.size() - 1:
            raise OutOfRange(0)
        if first < 0 or first > field.size() - 2:
            raise OutOfRange(1)
        if design < 2 or design > n:
            raise OutOfRange(2)
        generator = _generator(field, first, design)
        if degree(generator) >= n:
            raise TooLarge(degree(generator))
        self.field = field
        self.n = n
        self.first = first
        self.design = design
        self._generator = generator

    def generator(self):
        """Return the generator, a binary polynomial."""
        return self._generator

    def checks(self):
        """Return the number of checks, the degree of the generator."""
        return degree(self._generator)

    def is_word(self, bits):
        """Return True if a list of bits is a word, otherwise False."""
        return len(bits) == self.n and self._rest(bits) == 0

    def codeword(self, message):
        """Return the word that has the message in its places from the number of checks on."""
        checks = self.checks()
        if len(message) != self.n - checks:
            raise WrongSize(0)
        # Taking the rest away from the shifted message leaves a multiple of the generator.
        rest = self._rest([0] * checks + message)
        return [rest >> i & 1 for i in range(checks)] + message

    def message(self, word):
        """Return the message of a word."""
        return word[self.checks():]

    def _rest(self, bits):
        """Return the rest of dividing the binary polynomial of the bits by the generator."""
        p = sum([bit << i for i, bit in enumerate(bits)])
        return divide(p, self._generator)[1]


def _generator(field, first, design):
    """Return the product of the different minimal polynomials of the roots of the code."""
    factors = {}
    for j in range(design - 1):
        factors[minimal(field, field.power(field.root(), first + j))] = True
    total = 1
    for factor in factors:
        total = times(total, factor)
    return total
