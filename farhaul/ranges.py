"""Tests of lists of integers that may come from anywhere."""


def all_below(numbers, bound):
    """Return True if all numbers are from 0 to bound - 1, otherwise False."""
    return all(0 <= number < bound for number in numbers)
