"""Recurrences (linear feedback shift registers), the least ones of lists, and their papers."""

from farhaul.ranges import all_below


def makes(field, recurrence, items):
    """Return True if a recurrence makes a list of elements of the field, otherwise False."""
    return all(_gap(field, recurrence, items, k) == 0 for k in range(len(recurrence) - 1, len(items)))


def shortest(field, items):
    """Return the pair of a least recurrence that makes a list, and a span paper (Massey)."""
    recurrence = [1]
    paper = None
    # What is added to mend a gap: the recurrence of the paper, moved and scaled.
    helper, helper_at, helper_gap = [1], -1, 1
    for k in range(len(items)):
        gap = _gap(field, recurrence, items, k)
        if gap == 0:
            continue
        factor = field.times(gap, field.inverse(helper_gap))
        mended = _sum(field, recurrence, helper, k - helper_at, factor)
        if len(mended) > len(recurrence):
            helper, helper_at, helper_gap = recurrence, k, gap
            paper = (k, list(recurrence))
        recurrence = mended
    return recurrence, paper


def check_shortest(field, items, recurrence, paper):
    """Return True if a paper proves that a recurrence is a least one of a list, otherwise False."""
    if not _is_recurrence(field, recurrence) or not makes(field, recurrence, items):
        return False
    if paper is None:
        return len(recurrence) == 1
    k, earlier = paper
    if k < 0 or k >= len(items) or not _is_recurrence(field, earlier):
        return False
    if not makes(field, earlier, items[:k]) or makes(field, earlier, items[:k + 1]):
        return False
    return len(recurrence) - 1 <= k + 1 - (len(earlier) - 1)


def _is_recurrence(field, numbers):
    """Return True if a list of integers has the form of a recurrence, otherwise False."""
    return numbers[:1] == [1] and all_below(numbers, field.size())


def _gap(field, recurrence, items, k):
    """Return the sum that is 0 if the recurrence makes the item k of the ones before it."""
    total = 0
    for i, e in enumerate(recurrence):
        total = field.add(total, field.times(e, items[k - i]))
    return total


def _sum(field, recurrence, helper, shift, factor):
    """Return the recurrence plus a factor times another one that is moved to the right."""
    total = recurrence + [0] * (shift + len(helper) - len(recurrence))
    for i, e in enumerate(helper):
        total[shift + i] = field.add(total[shift + i], field.times(factor, e))
    return total
