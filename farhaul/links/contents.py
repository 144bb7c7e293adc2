"""Contents, cores and payloads of frames, from the data to the bits that are sent."""

from farhaul.errors import BadByte, OutOfRange, WrongSize
from farhaul.links.symbols import bits_of, numbers_of, words_of
from farhaul.weaving.blocks import woven

HEAD_BITS = 32
MOST_NUMBER = 65535


def need_bytes(data, most):
    """Raise an error unless the data are bytes, and at most so many."""
    if len(data) > most:
        raise WrongSize(0)
    for k, byte in enumerate(data):
        if byte < 0 or byte > 255:
            raise BadByte(k)


def content(plan, number, data):
    """Return the bits of the number, of the size of the data, of the data, and bits 0."""
    if number < 0 or number > MOST_NUMBER:
        raise OutOfRange(0)
    need_bytes(data, plan.most_bytes())
    bits = bits_of([number, len(data)], 16) + bits_of(data, 8)
    return bits + [0] * (plan.room() - len(bits))


def read_content(plan, bits):
    """Return the pair of the number and the data, or None if the bits are no content."""
    if len(bits) != plan.room():
        raise WrongSize(0)
    number, size = numbers_of(bits[:HEAD_BITS], 16)
    end = HEAD_BITS + 8 * size
    if size > plan.most_bytes() or any(bits[end:]):
        return None
    return number, numbers_of(bits[HEAD_BITS:end], 8)


def core(plan, bits):
    """Return the bits of the woven words whose messages are the symbols of a content."""
    if len(bits) != plan.room():
        raise WrongSize(0)
    symbols = []
    for word in words_of(plan, bits):
        symbols.extend(word)
    return bits_of(woven(plan.depth, plan.code.n, symbols), plan.code.field.bits())


def payload(plan, number, data):
    """Return the core of a content, or its ended row if the plan has a shift register."""
    bits = core(plan, content(plan, number, data))
    if plan.shift_register is None:
        return bits
    return plan.shift_register.ended_row(bits)
