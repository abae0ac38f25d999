"""Points 3 and 5: fractions, measured by Python's own Fraction."""

import unittest
from fractions import Fraction
from math import gcd

from glazehall.errors import NoFraction
from glazehall.fractions import greatest_divisor, less, made, minus, plus, times

FORTY = 10 ** 40 - 1
GREAT = (
    FORTY, FORTY - 1, 10 ** 39, 2 ** 132, 3 ** 83, 7 ** 47, 10 ** 39 + 7,
    1234567890123456789012345678901234567890, 9876543210987654321098765432109876543210,
)


def pair(value):
    return (value.numerator, value.denominator)


def pool():
    small = [Fraction(top, bottom) for bottom in range(1, 8) for top in range(-9, 10) if gcd(top, bottom) == 1]
    great = [Fraction(sign * top, bottom) for top in GREAT[:5] for bottom in (1, 7, 10 ** 39) for sign in (1, -1)]
    tiny = [Fraction(sign, bottom) for bottom in GREAT for sign in (1, -1)]
    return small + great + tiny


class FractionsCase(unittest.TestCase):
    def check(self, told, wanted):
        self.assertIs(type(told), tuple)
        self.assertEqual(len(told), 2)
        self.assertIs(type(told[0]), int)
        self.assertIs(type(told[1]), int)
        self.assertEqual(told, pair(wanted))


class MadeTest(FractionsCase):
    def test_the_example(self):
        self.assertEqual(made(6, -4), (-3, 2))

    def test_every_sign(self):
        self.assertEqual(made(6, 4), (3, 2))
        self.assertEqual(made(-6, 4), (-3, 2))
        self.assertEqual(made(-6, -4), (3, 2))

    def test_all_small_pairs(self):
        for top in range(-40, 41):
            for bottom in range(-40, 41):
                if bottom != 0:
                    self.check(made(top, bottom), Fraction(top, bottom))

    def test_lowest_terms_and_a_bottom_from_1_on(self):
        for top in range(-30, 31):
            for bottom in range(-30, 31):
                if bottom != 0:
                    told = made(top, bottom)
                    self.assertGreaterEqual(told[1], 1)
                    self.assertEqual(gcd(told[0], told[1]), 1)
                    self.assertEqual(told[0] * bottom, top * told[1])

    def test_nought(self):
        for bottom in (1, -1, 2, -2, 16, -360, FORTY, -FORTY):
            with self.subTest(bottom=bottom):
                self.assertEqual(made(0, bottom), (0, 1))

    def test_a_common_factor(self):
        self.assertEqual(made(360, 840), (3, 7))
        self.assertEqual(made(-17 * 91, 17 * 90), (-91, 90))
        self.assertEqual(made(12, 3), (4, 1))
        self.assertEqual(made(3, -12), (-1, 4))
        self.assertEqual(made(-5, -5), (1, 1))

    def test_forty_figures(self):
        for top in GREAT:
            for bottom in GREAT:
                for sign in (1, -1):
                    self.check(made(sign * top, bottom), Fraction(sign * top, bottom))
                    self.check(made(top, sign * bottom), Fraction(top, sign * bottom))

    def test_forty_figures_with_a_great_common_factor(self):
        factor = 10 ** 19 + 51
        self.assertEqual(made(factor * (10 ** 20 + 39), -factor * 10 ** 20), (-(10 ** 20 + 39), 10 ** 20))

    def test_powers_of_two_and_numbers_beside_them(self):
        for height in (0, 1, 2, 4, 8, 63, 64, 65, 132):
            for bottom in (2 ** height - 1, 2 ** height, 2 ** height + 1, 3 * 2 ** height):
                for top in (0, 1, 2, 3, 6, 96, 2 ** 64, 3 * 2 ** 63, 2 ** 131 - 2 ** 60, 5 ** 40 * 2 ** 40) + GREAT:
                    for sign in (1, -1):
                        if bottom != 0:
                            self.check(made(sign * top, bottom), Fraction(sign * top, bottom))
                            self.check(made(top, sign * bottom), Fraction(top, sign * bottom))

    def test_the_greatest_divisor(self):
        for one in range(70):
            for other in range(70):
                self.assertEqual(greatest_divisor(one, other), gcd(one, other))

    def test_more_than_forty_figures(self):
        self.assertEqual(made(6 * 10 ** 5000, -4 * 10 ** 5000), (-3, 2))

    def test_a_bottom_of_0_is_refused(self):
        for top in (0, 1, -1, 6, FORTY, -FORTY, 10 ** 5000):
            with self.assertRaises(NoFraction) as taken:
                made(top, 0)
            self.assertIs(type(taken.exception), NoFraction)

    def test_other_things_than_whole_numbers_are_refused(self):
        for thing in (True, False, None, "1", 1.0, (1, 1), [1]):
            with self.subTest(thing=thing):
                with self.assertRaises(NoFraction):
                    made(thing, 1)
                with self.assertRaises(NoFraction):
                    made(1, thing)

    def test_what_is_refused_changes_nothing(self):
        with self.assertRaises(NoFraction):
            made(6, 0)
        self.assertEqual(made(6, -4), (-3, 2))


class SumsTest(FractionsCase):
    def test_plus_minus_times(self):
        for one in pool():
            for other in pool():
                self.check(plus(pair(one), pair(other)), one + other)
                self.check(minus(pair(one), pair(other)), one - other)
                self.check(times(pair(one), pair(other)), one * other)

    def test_plain_ones(self):
        self.assertEqual(plus((1, 6), (1, 3)), (1, 2))
        self.assertEqual(minus((1, 6), (2, 3)), (-1, 2))
        self.assertEqual(times((-2, 3), (3, 4)), (-1, 2))

    def test_nought_and_one(self):
        for value in pool():
            told = pair(value)
            self.assertEqual(plus(told, (0, 1)), told)
            self.assertEqual(plus((0, 1), told), told)
            self.assertEqual(minus(told, (0, 1)), told)
            self.assertEqual(minus(told, told), (0, 1))
            self.assertEqual(minus((0, 1), told), (-told[0], told[1]))
            self.assertEqual(times(told, (1, 1)), told)
            self.assertEqual(times((1, 1), told), told)
            self.assertEqual(times(told, (0, 1)), (0, 1))
            self.assertEqual(times((0, 1), told), (0, 1))

    def test_as_many_figures_as_needed(self):
        product = (1, 1)
        total = (0, 1)
        exact_product = Fraction(1)
        exact_total = Fraction(0)
        for step in range(40):
            value = Fraction(FORTY - step, 10 ** 39 + 3 * step)
            product = times(product, pair(value))
            total = plus(total, pair(value))
            exact_product *= value
            exact_total += value
        self.check(product, exact_product)
        self.check(total, exact_total)
        self.assertGreater(product[0], 10 ** 1000)
        self.check(minus(total, product), exact_total - exact_product)


class LessTest(unittest.TestCase):
    def test_less(self):
        for one in pool():
            for other in pool():
                self.assertIs(less(pair(one), pair(other)), one < other)

    def test_like_ones(self):
        for value in pool():
            self.assertIs(less(pair(value), pair(value)), False)

    def test_negative_ones(self):
        self.assertIs(less((-1, 2), (-1, 3)), True)
        self.assertIs(less((-1, 3), (-1, 2)), False)
        self.assertIs(less((-1, 1), (0, 1)), True)
        self.assertIs(less((0, 1), (-1, 1)), False)
        self.assertIs(less((-5, 1), (1, 5)), True)
        self.assertIs(less((-1, 2), (-1, 2)), False)

    def test_great_ones_that_lie_close_together(self):
        near = (FORTY - 1, FORTY)
        nearer = (FORTY, FORTY + 1)
        self.assertIs(less(near, nearer), True)
        self.assertIs(less(nearer, near), False)
        self.assertIs(less(nearer, (1, 1)), True)


if __name__ == "__main__":
    unittest.main()
