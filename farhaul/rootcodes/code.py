"""Root codes (Reed-Solomon codes)."""

from farhaul.errors import OutOfRange, WrongSize
from farhaul.polys.points import from_roots
from farhaul.polys.polys import divide, value
from farhaul.rootcodes.places import check_places
from farhaul.rootcodes.weights import weights_of


class RootCode:
    """The code of all lists of n symbols that are 0 at given powers of the root of a field."""

    def __init__(self, field, n, first, checks):
        if n < 2 or n > field.size() - 1:
            raise OutOfRange(0)
        if first < 0 or first > field.size() - 2:
            raise OutOfRange(1)
        if checks < 1 or checks > n - 1:
            raise OutOfRange(2)
        self.field = field
        self.n = n
        self.first = first
        self.checks = checks
        self._generator = from_roots(field, self.roots())

    def roots(self):
        """Return the list of the elements at which each word is 0."""
        root = self.field.root()
        return [self.field.power(root, self.first + j) for j in range(self.checks)]

    def is_word(self, symbols):
        """Return True if a list of symbols is a word, otherwise False."""
        if len(symbols) != self.n:
            return False
        return all(value(self.field, symbols, e) == 0 for e in self.roots())

    def codeword(self, message):
        """Return the word that has the message in its places from `checks` on."""
        if len(message) != self.n - self.checks:
            raise WrongSize(0)
        # Taking the rest away from the shifted message leaves a multiple of the generator.
        rest = divide(self.field, [0] * self.checks + message, self._generator)[1]
        return rest + [0] * (self.checks - len(rest)) + message

    def message(self, word):
        """Return the message of a word."""
        return word[self.checks:]

    def word_on(self, places):
        """Return the word that has 1 at the least of these places and is not 0 just at them."""
        if len(places) != self.checks + 1:
            raise WrongSize(0)
        check_places(places, self.n)
        points = [self.field.power(self.field.root(), place) for place in places]
        weights = weights_of(self.field, self.first, points)
        scale = self.field.inverse(weights[0])
        word = [0] * self.n
        for k, place in enumerate(places):
            word[place] = self.field.times(scale, weights[k])
        return word
