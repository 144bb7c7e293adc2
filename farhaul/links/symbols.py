"""Groups of bits as numbers, and the words of a plan whose messages are the symbols of a content."""

from farhaul.rootcodes.mending import check_correction, corrected, mend


def bits_of(numbers, size):
    """Return the bits of numbers, so many of each one, the lowest first."""
    return [number >> i & 1 for number in numbers for i in range(size)]


def numbers_of(bits, size):
    """Return the numbers that the groups of so many bits are, None for one with a wiped bit."""
    groups = [bits[k:k + size] for k in range(0, len(bits), size)]
    return [None if None in group else _number_of(group) for group in groups]


def words_of(plan, bits):
    """Return the list of the words for as many bits as the room."""
    symbols = numbers_of(bits, plan.code.field.bits())
    size = plan.code.n - plan.code.checks
    return [plan.code.codeword(symbols[k:k + size]) for k in range(0, len(symbols), size)]


def content_bits(plan, words):
    """Return the bits of the messages of the words."""
    bits = []
    for word in words:
        bits.extend(bits_of(plan.code.message(word), plan.code.field.bits()))
    return bits


def mended_words(plan, lists):
    """Return the pairs of a near word and its correction for all received lists, or None."""
    pairs = []
    for received, wiped in lists:
        mended = mend(plan.code, received, wiped)
        if mended is None:
            return None
        pairs.append(mended)
    return pairs


def are_corrected(plan, lists, corrections, words):
    """Return True if corrections, one for each received list, are right and lead to the words."""
    if len(corrections) != len(lists):
        return False
    for (received, wiped), pairs, word in zip(lists, corrections, words):
        if not check_correction(plan.code, received, wiped, pairs):
            return False
        if corrected(plan.code, received, wiped, pairs) != word:
            return False
    return True


def _number_of(group):
    """Return the number with these bits, the lowest first."""
    return sum([bit << i for i, bit in enumerate(group)])
