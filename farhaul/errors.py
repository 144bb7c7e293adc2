"""The errors of the program. Each one is created with one integer, its attribute `at`."""


class HaulError(ValueError):
    """The base class of all errors of the program."""

    def __init__(self, at):
        ValueError.__init__(self, f"at {at}")
        self.at = at


class OutOfRange(HaulError):
    """A number is not in its range."""


class NotIrreducible(HaulError):
    """A modulus is no irreducible polynomial of the degree of its field."""


class NoInverse(HaulError):
    """The element 0 has no inverse, no order and no logarithm."""


class NoDivisor(HaulError):
    """Nothing is divided by 0, and 0 has no list of roots."""


class SamePoint(HaulError):
    """A point stands where an earlier one stands."""


class BadTaps(HaulError):
    """The taps are too few or too many, or one is out of range, or all are 0."""


class BadPattern(HaulError):
    """The masks are too few or too many, or one is out of range, or all are 0."""


class BadRow(HaulError):
    """A row has a number of items that no such row has."""


class NoPath(HaulError):
    """A state is not reached."""


class WrongSize(HaulError):
    """A list has another size than is asked for."""


class WrongPlace(HaulError):
    """A place is out of range, or not in ascending order."""


class WrongCorrection(HaulError):
    """A pair of a correction has a wrong place or a wrong value."""


class TooSmall(HaulError):
    """There is too little room."""


class TooLarge(HaulError):
    """A size is too great."""


class BadByte(HaulError):
    """An item of the data is no byte."""


class HasRegister(HaulError):
    """A plan has a shift register where none may be."""


class BadSeal(HaulError):
    """A number is no seal."""


class BadVote(HaulError):
    """A vote is out of range, or not in ascending order."""


class TooFar(HaulError):
    """A distance is greater than the reach or the limit."""
