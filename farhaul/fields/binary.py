"""Binary polynomials: integers whose bit i is the coefficient of x ** i."""

from farhaul.errors import NoDivisor, OutOfRange

X = 2


def degree(p):
    """Return the degree, -1 for the polynomial 0."""
    return p.bit_length() - 1


def times(p, q):
    """Return the product."""
    total = 0
    for i in range(q.bit_length()):
        if q >> i & 1:
            total ^= p << i
    return total


def divide(p, q):
    """Return the pair of the quotient and the rest."""
    if q == 0:
        raise NoDivisor(0)
    quotient = 0
    rest = p
    shift = degree(rest) - degree(q)
    while shift >= 0:
        quotient |= 1 << shift
        rest ^= q << shift
        shift = degree(rest) - degree(q)
    return quotient, rest


def common(p, q):
    """Return the common divisor of the greatest degree, 0 if both are 0."""
    last = p
    rest = q
    while rest != 0:
        last, rest = rest, divide(last, rest)[1]
    return last


def product_rest(p, q, modulus):
    """Return the rest of the product by a modulus other than 0."""
    return divide(times(p, q), modulus)[1]


def is_irreducible(p):
    """Return True if the polynomial is irreducible, otherwise False."""
    if degree(p) < 1:
        return False
    # x ** (2 ** k) + x is the product of all irreducible polynomials whose degrees divide k,
    # and a polynomial that is not irreducible has a factor of at most half its degree.
    power = X
    for _ in range(degree(p) // 2):
        power = product_rest(power, power, p)
        if common(power ^ X, p) != 1:
            return False
    return True


def least_irreducible(m):
    """Return the least irreducible polynomial of the degree m."""
    if m < 1 or m > 16:
        raise OutOfRange(m)
    p = 1 << m
    while not is_irreducible(p):
        p += 1
    return p
