"""Point 6: shades."""

import unittest
from fractions import Fraction

from glazehall.errors import NoShade
from glazehall.shades import CLEAR, is_shade, shade

NO_SIXTEENTHS = (
    -1, 17, -2, 18, 256, -16, 10 ** 40, -10 ** 40, 10 ** 5000, -10 ** 5000,
    True, False, None, "", "4", "16", 4.0, (1, 4), [4], {4: 4},
)
BOTTOMS = (1, 2, 3, 5, 7, 16, 17, 256, 10 ** 39 + 7)


def pair(value):
    return (value.numerator, value.denominator)


def numbers():
    found = [Fraction(top, bottom) for bottom in (1, 2, 3, 5, 16) for top in range(-2, bottom + 3)]
    edges = [edge + sign * Fraction(1, bottom) for edge in (0, 1) for bottom in BOTTOMS for sign in (-1, 0, 1)]
    return sorted(set(found + edges))


class ShadeTest(unittest.TestCase):
    def check_refused(self, colour, thickness):
        with self.assertRaises(NoShade) as taken:
            shade(colour, thickness)
        self.assertIs(type(taken.exception), NoShade)

    def test_the_example(self):
        self.assertEqual(shade(4, 16), ((1, 4), (1, 1)))

    def test_all_pairs_of_sixteenths(self):
        for colour in range(17):
            for thickness in range(17):
                with self.subTest(colour=colour, thickness=thickness):
                    if colour > thickness:
                        self.check_refused(colour, thickness)
                    else:
                        told = shade(colour, thickness)
                        self.assertEqual(told, (pair(Fraction(colour, 16)), pair(Fraction(thickness, 16))))
                        self.assertIs(is_shade(told), True)

    def test_a_shade_is_a_tuple_of_two_tuples_of_whole_numbers(self):
        for told in (shade(0, 0), shade(0, 16), shade(16, 16), shade(4, 6), CLEAR):
            self.assertIs(type(told), tuple)
            self.assertEqual([type(part) for part in told], [tuple, tuple])
            self.assertEqual([type(number) for part in told for number in part], [int] * 4)

    def test_edges_and_like_ones(self):
        self.assertEqual(shade(0, 0), ((0, 1), (0, 1)))
        self.assertEqual(shade(0, 16), ((0, 1), (1, 1)))
        self.assertEqual(shade(16, 16), ((1, 1), (1, 1)))
        self.assertEqual(shade(6, 6), ((3, 8), (3, 8)))
        self.assertEqual(shade(15, 16), ((15, 16), (1, 1)))

    def test_the_first_above_the_second_is_refused(self):
        self.check_refused(1, 0)
        self.check_refused(16, 0)
        self.check_refused(16, 15)
        self.check_refused(9, 8)

    def test_what_is_no_sixteenth_is_refused_on_either_side(self):
        for thing in NO_SIXTEENTHS:
            with self.subTest(kind=type(thing)):
                for sixteenth in (0, 4, 16):
                    self.check_refused(thing, sixteenth)
                    self.check_refused(sixteenth, thing)
                self.check_refused(thing, thing)

    def test_clear_is_the_shade_of_0_and_0(self):
        self.assertEqual(CLEAR, ((0, 1), (0, 1)))
        self.assertEqual(CLEAR, shade(0, 0))
        self.assertIs(is_shade(CLEAR), True)

    def test_what_is_refused_changes_nothing(self):
        self.check_refused(17, 17)
        self.assertEqual(shade(4, 16), ((1, 4), (1, 1)))
        self.assertEqual(CLEAR, ((0, 1), (0, 1)))


class IsShadeTest(unittest.TestCase):
    def test_just_where_the_three_bounds_hold(self):
        for colour in numbers():
            for thickness in numbers():
                with self.subTest(colour=colour, thickness=thickness):
                    self.assertIs(is_shade((pair(colour), pair(thickness))), 0 <= colour <= thickness <= 1)

    def test_the_edges(self):
        for value in (((0, 1), (0, 1)), ((0, 1), (1, 1)), ((1, 1), (1, 1)), ((3, 7), (3, 7)), ((1, 3), (1, 2))):
            with self.subTest(value=value):
                self.assertIs(is_shade(value), True)

    def test_just_beyond_each_bound(self):
        for bottom in BOTTOMS:
            with self.subTest(bottom=bottom):
                self.assertIs(is_shade(((-1, bottom), (1, 1))), False)
                self.assertIs(is_shade(((-1, bottom), (0, 1))), False)
                self.assertIs(is_shade(((0, 1), (bottom + 1, bottom))), False)
                self.assertIs(is_shade(((1, 1), (bottom + 1, bottom))), False)
                self.assertIs(is_shade(((1, bottom), (1, bottom + 1))), False)
                self.assertIs(is_shade(((1, bottom + 1), (1, bottom))), True)
                self.assertIs(is_shade(((0, 1), (bottom, bottom + 1))), True)

    def test_beyond_all_bounds_on_one_side(self):
        self.assertIs(is_shade(((-2, 1), (-1, 1))), False)
        self.assertIs(is_shade(((-1, 1), (-1, 1))), False)
        self.assertIs(is_shade(((2, 1), (2, 1))), False)
        self.assertIs(is_shade(((2, 1), (1, 1))), False)


if __name__ == "__main__":
    unittest.main()
