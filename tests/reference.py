"""What several tests need: slow ways to the right answers, and checks that hold for all functions."""

import copy
import random

from farhaul import errors
from farhaul.fields.field import Field

ERROR_NAMES = (
    "OutOfRange NotIrreducible NoInverse NoDivisor SamePoint BadTaps BadPattern BadRow NoPath WrongSize "
    "WrongPlace WrongCorrection TooSmall TooLarge BadByte HasRegister BadSeal BadVote TooFar"
).split()

# All irreducible polynomials of the degrees 2 to 4, and some of the others.
MODULI = {
    2: [7],
    3: [11, 13],
    4: [19, 25, 31],
    5: [37, 47, 61],
    6: [67, 73, 87, 109],
    7: [131, 137, 247, 253],
    8: [283, 285, 333, 505],
}


def all_fields():
    return [Field(m, modulus) for m in MODULI for modulus in MODULI[m]]


def small_fields():
    return [Field(m, modulus) for m in (2, 3, 4) for modulus in MODULI[m]]


def slow_times(p, q):
    """The product of two binary polynomials."""
    bits = [0] * (p.bit_length() + q.bit_length() + 1)
    for i in range(p.bit_length()):
        for j in range(q.bit_length()):
            bits[i + j] += (p >> i & 1) * (q >> j & 1)
    return sum((bit % 2) << i for i, bit in enumerate(bits))


def slow_rest(p, q):
    """The rest of dividing a binary polynomial by another one."""
    while p.bit_length() >= q.bit_length():
        p ^= q << (p.bit_length() - q.bit_length())
    return p


def reducibles(degree):
    """All products of two binary polynomials of degrees from 1 on, of at most the degree."""
    found = bytearray(2 << degree)
    for p in range(2, 2 << (degree // 2)):
        size = p.bit_length() - 1
        multiple = p
        # Each number differs in one bit from the one before it (a Gray code), from 1 to all of them.
        product_of = 0
        for k in range(1, 1 << (degree - size + 1)):
            low = (k & -k).bit_length() - 1
            product_of ^= multiple << low
            if product_of.bit_length() - 1 >= 2 * size:
                found[product_of] = 1
    return found


def poly_value(field, p, e):
    """The value of a polynomial, power by power."""
    total = 0
    for i, f in enumerate(p):
        total ^= field.times(f, field.power(e, i))
    return total


def random_poly(field, size, rng):
    """A polynomial with so many coefficients, the last one not 0."""
    if size == 0:
        return []
    return [rng.randrange(field.size()) for _ in range(size - 1)] + [rng.randrange(1, field.size())]


def some_polys(field, seed, many=12, most=7):
    rng = random.Random(seed)
    return [[], [1], [0, 1]] + [random_poly(field, rng.randrange(most), rng) for _ in range(many)]


def subsets(items):
    """All subsets of a list, each in ascending order."""
    return [[item for k, item in enumerate(items) if bits >> k & 1] for bits in range(1 << len(items))]


def raises(case, name, at, call, *args):
    """Test that a call raises just this error with this number, and leaves its arguments alone."""
    before = copy.deepcopy([arg for arg in args if isinstance(arg, list)])
    try:
        call(*args)
    except errors.HaulError as error:
        case.assertEqual((type(error).__name__, error.at), (name, at))
    else:
        case.fail(f"{name}({at}) was not raised for {args}")
    case.assertEqual([arg for arg in args if isinstance(arg, list)], before)


def spoil(result):
    """Change every list within a result."""
    if isinstance(result, (list, tuple)):
        for item in result:
            spoil(item)
    if isinstance(result, list):
        result.append("spoiled")
        result.reverse()


def fresh(case, call, *args):
    """Test that a call leaves its arguments alone and returns new lists each time; return its result."""
    lists = [arg for arg in args if isinstance(arg, (list, tuple))]
    before = copy.deepcopy(lists)
    first = call(*args)
    kept = copy.deepcopy(first)
    case.assertEqual(lists, before)
    second = call(*args)
    case.assertEqual(second, kept)
    spoil(first)
    case.assertEqual(second, kept, "two calls share a list")
    case.assertEqual(lists, before, "a result shares a list with an argument")
    case.assertEqual(call(*args), kept, "a changed result changes a later one")
    return kept


def bounds_rows(shift_register, count, cost, paper):
    """Whether a paper is a bound from below (points 405 and 503), for the cost of a step, a state and a bit."""
    v = shift_register.memory()
    if len(paper) != count + v + 1 or any(len(numbers) != 2 ** v for numbers in paper):
        return False
    if paper[count + v][0] is None or paper[count + v][0] > 0:
        return False
    for step in range(count + v):
        for state in range(2 ** v):
            for bit in (0, 1) if step < count else (0,):
                behind = paper[step + 1][shift_register.next_state(state, bit)]
                if behind is not None:
                    number = paper[step][state]
                    if number is None or number > behind + cost(step, state, bit):
                        return False
    return True
