"""Reckoning with FRACTIONS, the tuples (num, den) in lowest terms."""

from math import gcd, lcm

ZERO = (0, 1)
ONE = (1, 1)


def reduced(num, den):
    """The FRACTION num / den, den being any integer but 0."""
    divisor = gcd(num, den)
    if den < 0:
        divisor = -divisor
    return num // divisor, den // divisor


def added(parts):
    """The sum of a tuple or a list of FRACTIONS: 0 of none."""
    common = common_den(parts)
    return reduced(sum([num * (common // den) for num, den in parts]), common)


def less(one, other):
    """The difference one - other."""
    return reduced(one[0] * other[1] - other[0] * one[1], one[1] * other[1])


def times(one, other):
    """The product one * other."""
    return reduced(one[0] * other[0], one[1] * other[1])


def over(one, other):
    """The quotient one / other, other not being 0."""
    return reduced(one[0] * other[1], one[1] * other[0])


def compared(one, other):
    """-1, 0 or 1: one is less than other, the same, or greater."""
    left = one[0] * other[1]
    right = other[0] * one[1]
    if left < right:
        return -1
    if left > right:
        return 1
    return 0


def least_of(parts):
    """The least one of at least one FRACTION."""
    least = parts[0]
    for part in parts:
        if compared(part, least) < 0:
            least = part
    return least


def greatest_of(parts):
    """The greatest one of at least one FRACTION."""
    greatest = parts[0]
    for part in parts:
        if compared(part, greatest) > 0:
            greatest = part
    return greatest


def common_den(parts):
    """The least integer from 1 on that makes each part an integer by multiplying it."""
    common = 1
    for part in parts:
        common = lcm(common, part[1])
    return common
