"""How many turned bits a code withstands, told by the lightest one of its rows."""


def bound_of(weight):
    """Return the number of turned bits that never break a row, None if the least weight is 0."""
    if weight == 0:
        return None
    return (weight - 1) // 2


def breaking_places(row, weight):
    """Return the places of the first bits 1 of a row of the least weight, one more than the bound."""
    ones = [place for place, bit in enumerate(row) if bit == 1]
    return ones[:(weight + 1) // 2]
