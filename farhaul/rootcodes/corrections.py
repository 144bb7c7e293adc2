"""Corrections of received lists: pairs of a place and a value that is added there."""


def wrong_pair(code, pairs):
    """Return the index of the first pair that cannot stand there, None if there is none."""
    last = -1
    for k, (place, symbol) in enumerate(pairs):
        if place <= last or place >= code.n or symbol < 1 or symbol >= code.field.size():
            return k
        last = place
    return None


def without(received, wiped):
    """Return the received list with 0 in the wiped places."""
    symbols = list(received)
    for place in wiped:
        symbols[place] = 0
    return symbols


def applied(code, received, wiped, pairs):
    """Return the received list after setting the wiped places to 0 and adding the pairs."""
    symbols = without(received, wiped)
    for place, symbol in pairs:
        symbols[place] = code.field.add(symbols[place], symbol)
    return symbols


def is_correction(code, received, wiped, pairs):
    """Return True if the pairs have the form, are few enough, and lead to a word."""
    if wrong_pair(code, pairs) is not None:
        return False
    wrong = [place for place, _ in pairs if place not in wiped]
    if 2 * len(wrong) + len(wiped) > code.checks:
        return False
    return code.is_word(applied(code, received, wiped, pairs))
