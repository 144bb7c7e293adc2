"""Plans, which say how a link sends its frames."""

from farhaul.errors import OutOfRange, TooLarge, TooSmall
from farhaul.frames.marks import need_mark

MOST_DEPTH = 16
LEAST_ROOM = 40
MOST_BITS = 20000


class Plan:
    """A root code that is woven, a shift register or None, a mark and a tolerance."""

    def __init__(self, code, depth, shift_register, mark, tolerance):
        if depth < 1 or depth > MOST_DEPTH:
            raise OutOfRange(0)
        need_mark(mark)
        self.code = code
        self.depth = depth
        self.shift_register = shift_register
        self.mark = list(mark)
        self.tolerance = tolerance
        if self.room() < LEAST_ROOM:
            raise TooSmall(self.room())
        if self.payload_bits() > MOST_BITS:
            raise TooLarge(self.payload_bits())

    def room(self):
        """Return the number of bits of a content."""
        return self.depth * (self.code.n - self.code.checks) * self.code.field.bits()

    def most_bytes(self):
        """Return the greatest size of the data of a frame."""
        return (self.room() - 32) // 8

    def core_bits(self):
        """Return the number of bits of a core."""
        return self.depth * self.code.n * self.code.field.bits()

    def payload_bits(self):
        """Return the number of bits of a payload."""
        if self.shift_register is None:
            return self.core_bits()
        steps = self.core_bits() + self.shift_register.memory()
        return steps * len(self.shift_register.taps())


def copied(plan):
    """Return a plan that does not change if something is assigned to another one."""
    return Plan(plan.code, plan.depth, plan.shift_register, plan.mark, plan.tolerance)
