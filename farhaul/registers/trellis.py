"""Ways through the steps of a shift register, and least prices of what is still to come.

A window is the input plus twice the state; `prices` has, for each step of an ended row, a list
with the price of each window. A paper has, for each step and the end, a list with a number or
None for each state, and `count` steps have free inputs: in the others the input is 0.
"""


def weights(shift_register):
    """Return the list of the numbers of bits 1 that are put out for each window."""
    windows = range(2 << shift_register.memory())
    return [sum(shift_register.out(window // 2, window % 2)) for window in windows]


def least_paper(v, count, prices):
    """Return the paper of the least prices from each state at each step to the state 0 at the end."""
    ahead = [0] + [None] * ((1 << v) - 1)
    paper = [ahead]
    for step in reversed(range(count + v)):
        ahead = [min(_sums(prices[step], ahead, state, step < count), default=None) for state in range(1 << v)]
        paper.append(ahead)
    paper.reverse()
    return paper


def is_bound(v, count, prices, paper):
    """Return True if a paper is a bound from below, otherwise False."""
    if len(paper) != count + v + 1 or any(len(row) != 1 << v for row in paper):
        return False
    if paper[-1][0] is None or paper[-1][0] > 0:
        return False
    for step in range(count + v):
        for state in range(1 << v):
            sums = _sums(prices[step], paper[step + 1], state, step < count)
            number = paper[step][state]
            if sums and (number is None or number > min(sums)):
                return False
    return True


def first_inputs(v, count, prices, paper, step, state):
    """Return the first free inputs, as lists are ordered, of the least price from a state at a step on.

    The paper is the least one, and a way leads from there to the state 0 at the end.
    """
    bits = []
    for now in range(step, count):
        with_zero = paper[now + 1][2 * state % (1 << v)]
        bit = 1
        if with_zero is not None and with_zero + prices[now][2 * state] == paper[now][state]:
            bit = 0
        bits.append(bit)
        state = (bit + 2 * state) % (1 << v)
    return bits


def _sums(prices, ahead, state, is_free):
    """Return, for each allowed input whose next state has a number, this number plus the price."""
    sums = []
    for window in range(2 * state, 2 * state + (2 if is_free else 1)):
        number = ahead[window % len(ahead)]
        if number is not None:
            sums.append(number + prices[window])
    return sums
