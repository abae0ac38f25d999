"""Rules: tuples (g, p, a, q, b) of five fractions, which tell of a value (c, t) the value (g c + p t + a, q t + b)."""

from glazehall.fractions import ONE, minus, plus, times
from glazehall.shades import is_shade

IDENTITY = ((1, 1), (0, 1), (0, 1), (1, 1), (0, 1))


# Made anew each time, so that no change to a list that was told reaches the next one.
def grounds():
    return [((0, 1), (0, 1)), ((0, 1), (1, 1)), ((1, 1), (1, 1))]


def laid(rule, value):
    c = value[0]
    t = value[1]
    colour = plus(plus(times(rule[0], c), times(rule[1], t)), rule[2])
    return (colour, plus(times(rule[3], t), rule[4]))


def behind(first, second):
    # What a rule adds by itself is a value of its own, on which the second rule is laid like on any other one.
    added = laid(second, (first[2], first[4]))
    g = times(second[0], first[0])
    p = plus(times(second[0], first[1]), times(second[1], first[3]))
    return (g, p, added[0], times(second[3], first[3]), added[1])


def mixed(rule, share):
    rest = minus(ONE, share)
    g = plus(rest, times(share, rule[0]))
    q = plus(rest, times(share, rule[3]))
    return (g, times(share, rule[1]), times(share, rule[2]), q, times(share, rule[4]))


# The three grounds are enough: what two rules tell of them has all five numbers in it.
def parted(one, other):
    for ground in grounds():
        if laid(one, ground) != laid(other, ground):
            return ground
    return None


# The shades are the mixtures of the three grounds, and a rule tells of a mixture the mixture of what it tells.
def stays(rule):
    return all([is_shade(laid(rule, ground)) for ground in grounds()])
