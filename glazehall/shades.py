"""Shades: tuples (colour, thickness) of two fractions with 0 <= colour <= thickness <= 1."""

from glazehall.errors import NoShade
from glazehall.fractions import NOUGHT, ONE, less, made
from glazehall.wholes import is_sixteenth

CLEAR = ((0, 1), (0, 1))


def shade(colour, thickness):
    if not is_sixteenth(colour) or not is_sixteenth(thickness) or colour > thickness:
        raise NoShade("a shade is made of two sixteenths, the first not above the second")
    return (made(colour, 16), made(thickness, 16))


def is_shade(value):
    colour = value[0]
    thickness = value[1]
    return not less(colour, NOUGHT) and not less(thickness, colour) and not less(ONE, thickness)
