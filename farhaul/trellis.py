"""Ways through states, step by step, and bounds from below for their prices.

`steps` has, for each step, a list with the branches of each state: pairs of the next state and the
price, first for the bit 0 and then, where it is allowed, for the bit 1. All ways end at one state, `end`.
A paper has, for each step and the end, a list with a number or None for each state.
"""


def least_paper(steps, end=0):
    """Return the paper of the least prices from each state at each step to the end."""
    ahead = [None] * len(steps[0])
    ahead[end] = 0
    paper = [ahead]
    for step in reversed(steps):
        ahead = [min(_sums(branches, ahead), default=None) for branches in step]
        paper.append(ahead)
    paper.reverse()
    return paper


def is_bound(steps, paper, end=0):
    """Return True if a paper is a bound from below, otherwise False."""
    states = len(steps[0])
    if len(paper) != len(steps) + 1 or any(len(numbers) != states for numbers in paper):
        return False
    if paper[-1][end] is None or paper[-1][end] > 0:
        return False
    for k, step in enumerate(steps):
        for branches, number in zip(step, paper[k]):
            sums = _sums(branches, paper[k + 1])
            if sums and (number is None or number > min(sums)):
                return False
    return True


def first_bits(steps, paper, start, state):
    """Return the first bits, as lists are ordered, of the least price from a state at a step on.

    The paper is the least one, and a way leads from there to the end.
    """
    bits = []
    for k in range(start, len(steps)):
        branches = steps[k][state]
        ahead, price = branches[0]
        bit = 1
        if paper[k + 1][ahead] is not None and paper[k + 1][ahead] + price == paper[k][state]:
            bit = 0
        bits.append(bit)
        state = branches[bit][0]
    return bits


def parting_bounds(steps, paper, bits, state=0):
    """Return, for each of the bits of a way from a state on, a bound for those that part there.

    Each step has both branches. It is None where the paper has no number behind the other one.
    """
    bounds = []
    before = 0
    for k, bit in enumerate(bits):
        ahead, price = steps[k][state][1 - bit]
        number = paper[k + 1][ahead]
        bounds.append(None if number is None else before + price + number)
        state, price = steps[k][state][bit]
        before += price
    return bounds


def is_told(steps, paper, bits, price, state=0):
    """Return True if each way that parts from one from a state on costs as much as a price, or more.

    It costs more if it comes before this one, so if it has 0 where they part.
    """
    bounds = parting_bounds(steps, paper, bits, state)
    return all([bound is None or bound >= price + bit for bit, bound in zip(bits, bounds)])


def least_way(steps, size):
    """Return the pair of the least price of a way whose first bits are not all 0, and these bits.

    They are the first ones, as lists are ordered, and so many as the size says; a bit 0 costs
    nothing at the state 0.
    """
    paper = least_paper(steps)
    bounds = parting_bounds(steps, paper, [0] * size)
    least = min([bound for bound in bounds if bound is not None])
    # The first way has the most 0s at its beginning.
    start = max([k for k in range(size) if bounds[k] == least])
    rest = first_bits(steps, paper, start + 1, steps[start][0][1][0])
    return least, ([0] * start + [1] + rest)[:size]


def is_below_all(number, bounds):
    """Return True if a number is at most each bound that is not None, otherwise False."""
    return all(bound is None or number <= bound for bound in bounds)


def _sums(branches, ahead):
    """Return, for each branch whose next state has a number, this number plus the price."""
    sums = []
    for state, price in branches:
        number = ahead[state]
        if number is not None:
            sums.append(number + price)
    return sums
