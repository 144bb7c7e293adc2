"""Least rows and least free ways of shift registers, with papers that prove them."""

from farhaul.ranges import all_below
from farhaul.registers.steps import ended, step_of, weights
from farhaul.trellis import is_below_all, is_bound, least_paper, least_way, parting_bounds


def least_row(shift_register, count):
    """Return the pair of the least weight of an ended row and the first message that has it."""
    return least_way(_row_steps(shift_register, count), count)


def row_paper(shift_register, count):
    """Return a row paper that the check accepts with the least row."""
    return least_paper(_row_steps(shift_register, count))


def check_row(shift_register, count, weight, message, paper):
    """Return True if a paper proves that a message has the least weight, otherwise False."""
    if len(message) != count or not all_below(message, 2) or not any(message):
        return False
    if sum(shift_register.ended_row(message)) != weight:
        return False
    steps = _row_steps(shift_register, count)
    return is_bound(steps, paper) and is_below_all(weight, parting_bounds(steps, paper, [0] * count))


def free_way(shift_register):
    """Return the pair of the weight and the inputs of the least free way."""
    v = shift_register.memory()
    prices = weights(shift_register)
    ways = _least_ways(shift_register)
    bits = [1]
    state = 1
    while state != 0:
        bit = 1
        if _with_step(prices, ways, 2 * state) == ways[state]:
            bit = 0
        bits.append(bit)
        state = (bit + 2 * state) % (1 << v)
    return prices[1] + ways[1][0], bits


def free_paper(shift_register):
    """Return a free paper that the check accepts with the least free way."""
    return [weight for weight, _ in _least_ways(shift_register)]


def check_free(shift_register, weight, inputs, paper):
    """Return True if a paper proves that inputs are a free way of the least weight, otherwise False."""
    prices = weights(shift_register)
    if len(paper) != 1 << shift_register.memory() or paper[0] > 0:
        return False
    for window in range(2, len(prices)):
        if paper[window // 2] > paper[window % len(paper)] + prices[window]:
            return False
    if not _is_free_way(shift_register, inputs):
        return False
    return sum(shift_register.run(0, inputs)[1]) == weight and weight <= prices[1] + paper[1]


def _row_steps(shift_register, count):
    """Return the steps of the ended rows of messages of so many bits, priced by their weights."""
    step = step_of(weights(shift_register))
    return ended(shift_register, [step] * (count + shift_register.memory()))


def _least_ways(shift_register):
    """Return, for each state, the least pair of the weight and the number of inputs to the state 0."""
    v = shift_register.memory()
    prices = weights(shift_register)
    # As many inputs 0 as bits of memory lead from each state to the state 0.
    ways = [(0, 0)] + [(len(prices) * max(prices), len(prices))] * ((1 << v) - 1)
    better = _improved(prices, ways)
    while better != ways:
        ways = better
        better = _improved(prices, ways)
    return ways


def _improved(prices, ways):
    """Return the least pair of each state if the next states have the given pairs."""
    states = range(1, len(ways))
    return [(0, 0)] + [min(_with_step(prices, ways, 2 * k), _with_step(prices, ways, 2 * k + 1)) for k in states]


def _with_step(prices, ways, window):
    """Return the weight and the number of inputs of a step and the way from its next state."""
    weight, many = ways[window % len(ways)]
    return weight + prices[window], many + 1


def _is_free_way(shift_register, inputs):
    """Return True if inputs lead from the state 0 by a 1 back to it, and not before the end."""
    if not all_below(inputs, 2) or inputs[:1] != [1]:
        return False
    state = 0
    for k, bit in enumerate(inputs):
        state = shift_register.next_state(state, bit)
        if state == 0:
            return k == len(inputs) - 1
    return False
