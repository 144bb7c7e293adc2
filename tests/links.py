"""What the tests of links need: plans, and slow ways from data to bits and back."""

from farhaul.fields.field import Field
from farhaul.links.plans import Plan
from farhaul.registers.register import Register
from farhaul.rootcodes.code import RootCode
from farhaul.rootcodes.mending import check_correction, corrected, mend
from reference import MODULI, poly_value
from test_paths import path_passes, slow_price
from test_register import slow_row

MARK = [1, 1, 1, 1, 1, 0, 0, 1, 1, 0, 1, 0, 1]


def plan_of(m, n, checks, depth, taps=None, v=2, first=1, mark=None, tolerance=0):
    """A plan over the first field with elements of m bits."""
    shift_register = None if taps is None else Register(v, taps)
    return Plan(RootCode(Field(m, MODULI[m][0]), n, first, checks), depth, shift_register, mark or MARK, tolerance)


def plain_plans():
    """Plans without a register: fields with 4 to 256 elements, depths from 1 to 16."""
    return [plan_of(2, 3, 1, 16), plan_of(2, 3, 1, 10, first=0), plan_of(3, 7, 3, 4), plan_of(3, 7, 2, 3, first=5),
            plan_of(4, 15, 4, 1), plan_of(4, 15, 10, 5), plan_of(4, 12, 1, 1), plan_of(5, 20, 6, 2, first=17),
            plan_of(5, 15, 4, 1), plan_of(6, 20, 5, 3), plan_of(7, 10, 4, 7), plan_of(8, 12, 4, 2), plan_of(8, 9, 4, 1), plan_of(8, 6, 5, 5),
            plan_of(8, 3, 2, 16)]


def register_plans():
    return [plan_of(4, 15, 4, 1, [7, 5]), plan_of(3, 7, 3, 4, [3, 1], 1), plan_of(8, 8, 2, 1, [13, 15, 11], 3, first=0),
            plan_of(2, 3, 1, 12, [53, 47, 33, 35], 5), plan_of(5, 8, 3, 2, [7, 0])]


def slow_bits(number, size):
    return [number // 2 ** i % 2 for i in range(size)]


def slow_content(plan, number, data):
    """Point 802, by its words."""
    bits = slow_bits(number, 16) + slow_bits(len(data), 16)
    for byte in data:
        bits += slow_bits(byte, 8)
    return bits + [0] * (room_of(plan) - len(bits))


def room_of(plan):
    return plan.depth * (plan.code.n - plan.code.checks) * plan.code.field.bits()


def symbols_of(bits, m):
    """The symbols with these bits, None for one with a wiped bit."""
    groups = [bits[k:k + m] for k in range(0, len(bits), m)]
    return [None if None in group else sum(bit * 2 ** i for i, bit in enumerate(group)) for group in groups]


def rows_of(plan, core):
    """The lists of symbols of a core, each row of the block by itself."""
    symbols = symbols_of(core, plan.code.field.bits())
    return [[symbols[j * plan.depth + i] for j in range(plan.code.n)] for i in range(plan.depth)]


def is_core_of(plan, core, bits):
    """Whether the rows of a core are the words of the code whose messages are the symbols of the bits."""
    code = plan.code
    roots = [code.field.power(code.field.root(), code.first + j) for j in range(code.checks)]
    symbols, size = symbols_of(bits, code.field.bits()), code.n - code.checks
    for i, row in enumerate(rows_of(plan, core)):
        if row[code.checks:] != symbols[i * size:(i + 1) * size]:
            return False
        if any(poly_value(code.field, row, e) != 0 for e in roots):
            return False
    return len(core) == plan.depth * code.n * code.field.bits()


def slow_payload(plan, core):
    if plan.shift_register is None:
        return core
    return slow_row(plan.shift_register.memory(), plan.shift_register.taps(), core)


def slow_told(plan, bits):
    """The number and the data of the bits of a content, or None."""
    number = sum(bit * 2 ** i for i, bit in enumerate(bits[:16]))
    size = sum(bit * 2 ** i for i, bit in enumerate(bits[16:32]))
    if 32 + 8 * size > len(bits) or 1 in bits[32 + 8 * size:]:
        return None
    return number, symbols_of(bits[32:32 + 8 * size], 8)


def received_of(row):
    """A received list and its wiped places."""
    return [symbol or 0 for symbol in row], [k for k, symbol in enumerate(row) if symbol is None]


def slow_read(plan, core):
    """Point 805 for a core, by its words and the mending of the code."""
    m, bits = plan.code.field.bits(), []
    for row in rows_of(plan, core):
        mended = mend(plan.code, *received_of(row))
        if mended is None:
            return None
        for symbol in mended[0][plan.code.checks:]:
            bits += slow_bits(symbol, m)
    return slow_told(plan, bits)


def payload_passes(plan, received, number, data, paper):
    """The check of point 806, by its words."""
    path, numbers, corrections = paper
    if plan.shift_register is None:
        if path is not None or numbers is not None:
            return False
        core = received
    else:
        if path is None or numbers is None or len(path) != plan.depth * plan.code.n * plan.code.field.bits():
            return False
        claim = slow_price(plan.shift_register, received, path)
        if not path_passes(plan.shift_register, received, path, claim, numbers):
            return False
        core = path
    if number not in range(2 ** 16) or any(byte not in range(256) for byte in data):
        return False
    if 32 + 8 * len(data) > room_of(plan) or len(corrections) != plan.depth:
        return False
    rows = []
    for row, pairs in zip(rows_of(plan, core), corrections):
        if not check_correction(plan.code, *received_of(row), pairs):
            return False
        rows.append(corrected(plan.code, *received_of(row), pairs))
    m = plan.code.field.bits()
    woven = [row[j] for j in range(plan.code.n) for row in rows]
    return is_core_of(plan, [bit for symbol in woven for bit in slow_bits(symbol, m)], slow_content(plan, number, data))


def some_data(plan, rng, size=None):
    """Data of any size that fits, or of a given one."""
    most = (room_of(plan) - 32) // 8
    return [rng.choice((0, 255, rng.randrange(256))) for _ in range(rng.randrange(most + 1) if size is None else size)]


def spoiled_core(plan, core, rng, beyond=0):
    """A core with symbols turned and wiped, in each word as much as is mended, or somewhat more."""
    m, received = plan.code.field.bits(), list(core)
    for i in range(plan.depth):
        wiped = rng.randrange(plan.code.checks + 1)
        wrong = (plan.code.checks - wiped) // 2 + beyond
        places = rng.sample(range(plan.code.n), min(plan.code.n, wiped + wrong))
        for k, place in enumerate(places):
            start = (place * plan.depth + i) * m
            for bit in rng.sample(range(start, start + m), rng.randrange(1, m + 1)):
                received[bit] = None if k < wiped else 1 - received[bit]
            if k < wiped:
                # What else the symbol has is of no matter.
                for bit in range(start, start + m):
                    received[bit] = rng.choice((received[bit], 0, 1, None))
                received[rng.randrange(start, start + m)] = None
    return received
