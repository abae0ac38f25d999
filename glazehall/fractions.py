"""Exact fractions: tuples (top, bottom) in lowest terms, the bottom from 1 on."""

from glazehall.errors import NoFraction
from glazehall.wholes import is_whole

NOUGHT = (0, 1)
ONE = (1, 1)


def greatest_divisor(one, other):
    # Most bottoms are powers of two. What such a one and a number have in common is the lowest bit of both.
    if other > 0 and other & (other - 1) == 0:
        both = one | other
        return both & -both
    while other != 0:
        rest = one % other
        one = other
        other = rest
    return one


# The bottom is not 0 here: that is seen to where numbers come in from outside.
def lowest(top, bottom):
    divisor = greatest_divisor(abs(top), abs(bottom))
    # A divisor with the bottom's sign carries that sign over to the top.
    if bottom < 0:
        divisor = -divisor
    return (top // divisor, bottom // divisor)


# The refusal doesn't show the numbers: Python itself refuses to write very long ones, with an error of its own.
def made(top, bottom):
    if not is_whole(top) or not is_whole(bottom) or bottom == 0:
        raise NoFraction("a fraction is made of two whole numbers, the second not 0")
    return lowest(top, bottom)


def plus(one, other):
    return lowest(one[0] * other[1] + other[0] * one[1], one[1] * other[1])


def minus(one, other):
    return lowest(one[0] * other[1] - other[0] * one[1], one[1] * other[1])


def times(one, other):
    return lowest(one[0] * other[0], one[1] * other[1])


# Both bottoms are above 0, so that multiplying by them turns no sign round.
def less(one, other):
    return one[0] * other[1] < other[0] * one[1]
