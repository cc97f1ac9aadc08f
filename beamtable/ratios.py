"""Exact fractions: tuples (top, bottom) in lowest terms, the bottom from 1 on."""

from beamtable.errors import NoFraction

ZERO = (0, 1)
ONE = (1, 1)


def greatest_divisor(one, other):
    larger = abs(one)
    smaller = abs(other)
    while smaller != 0:
        rest = larger % smaller
        larger = smaller
        smaller = rest
    return larger


def fraction(top, bottom):
    if bottom == 0:
        raise NoFraction("the bottom of a fraction is never 0")
    divisor = greatest_divisor(top, bottom)
    # A divisor below 0 brings the sign from the bottom to the top.
    if bottom < 0:
        divisor = -divisor
    return (top // divisor, bottom // divisor)


def plus(one, other):
    return fraction(one[0] * other[1] + other[0] * one[1], one[1] * other[1])


def minus(one, other):
    return fraction(one[0] * other[1] - other[0] * one[1], one[1] * other[1])


def times(one, other):
    return fraction(one[0] * other[0], one[1] * other[1])


def over(one, other):
    # Where the second one is 0 so is this bottom, and fraction refuses it.
    return fraction(one[0] * other[1], one[1] * other[0])


def under(one, other):
    # Bottoms are above 0, so multiplying by them keeps the order.
    return one[0] * other[1] < other[0] * one[1]
