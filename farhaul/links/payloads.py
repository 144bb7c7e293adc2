"""Reading received payloads, and checking the papers that prove what was read."""

from farhaul.errors import BadByte, OutOfRange, WrongSize
from farhaul.links.contents import content, read_content
from farhaul.links.symbols import are_corrected, content_bits, mended_words, numbers_of, words_of
from farhaul.paths.mending import check_path, mend, price
from farhaul.ranges import all_below
from farhaul.weaving.blocks import unwoven


def received_lists(plan, core):
    """Return the pairs of a received list and its wiped places, for a core with wiped bits."""
    if len(core) != plan.core_bits():
        raise WrongSize(0)
    n = plan.code.n
    symbols = unwoven(plan.depth, n, numbers_of(core, plan.code.field.bits()))
    rows = [symbols[k:k + n] for k in range(0, len(symbols), n)]
    return [_received_list(row) for row in rows]


def read_payload(plan, received):
    """Return the number, the data and the paper of a received payload, or None."""
    _need_payload(plan, received)
    path, numbers = None, None
    if plan.shift_register is not None:
        path, _, numbers = mend(plan.shift_register, received)
    mended = mended_words(plan, received_lists(plan, received if path is None else path))
    if mended is None:
        return None
    told = read_content(plan, content_bits(plan, [word for word, _ in mended]))
    if told is None:
        return None
    number, data = told
    return number, data, (path, numbers, [pairs for _, pairs in mended])


def check_payload(plan, received, number, data, paper):
    """Return True if a paper proves that a received payload has this number and these data."""
    _need_payload(plan, received)
    path, numbers, corrections = paper
    if not _is_told(plan, received, path, numbers):
        return False
    try:
        words = words_of(plan, content(plan, number, data))
    except (OutOfRange, WrongSize, BadByte):
        return False
    return are_corrected(plan, received_lists(plan, received if path is None else path), corrections, words)


def _need_payload(plan, received):
    """Raise an error unless a received payload has the size of one."""
    if len(received) != plan.payload_bits():
        raise WrongSize(0)


def _received_list(row):
    """Return the symbols of a received row, 0 for a wiped one, and the list of the wiped places."""
    symbols = [0 if symbol is None else symbol for symbol in row]
    return symbols, [place for place, symbol in enumerate(row) if symbol is None]


def _is_told(plan, received, path, numbers):
    """Return True if a path is the told core of a payload, or None where there is no register."""
    if plan.shift_register is None:
        return path is None and numbers is None
    if path is None or numbers is None or not all_below(path, 2):
        return False
    told = price(plan.shift_register, received, path)
    return check_path(plan.shift_register, received, path, told, numbers)
