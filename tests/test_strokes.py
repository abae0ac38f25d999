"""Points 23 to 26: ways, dabs on them, tips, and the shade behind a dab."""

import random
import unittest
from fractions import Fraction

from glazehall.errors import NoTip
from glazehall.shades import CLEAR, shade
from glazehall.strokes import Tip, dabs, thicker, way
from helpers import FORTY, TINY, check_refused, check_told, exact, pairs, plain_dabs, plain_way, sources

CELLS = [(0, 0), (1, 1), (2, 1), (2, 0), (1, -1), (0, -1), (0, 0), (0, 0), (-1, 3), (7, 7), (8, 8)]
ONE = [[16]]
THREE = [[1, 2, 3], [4, 5, 6], [7, 8, 9]]
FIVE = [[0, 1, 2, 3, 4], [5, 6, 7, 8, 9], [10, 11, 12, 13, 14], [15, 16, 0, 16, 15], [14, 13, 12, 11, 10]]


class WayTest(unittest.TestCase):
    def check_way(self, corners, wanted):
        told = way(corners)
        self.assertIs(type(told), list)
        self.assertEqual(told, wanted)
        for cell in told:
            self.assertIs(type(cell), tuple)
            self.assertEqual([type(number) for number in cell], [int, int])

    def test_one_corner(self):
        for cell in ((0, 0), (3, 7), (-4, 5), (-1, -1), (FORTY, -FORTY)):
            self.check_way([cell], [cell])

    def test_like_corners_behind_one_another(self):
        self.check_way([(2, 3), (2, 3)], [(2, 3)])
        self.check_way([(2, 3)] * 7, [(2, 3)])
        self.check_way([(0, 0), (0, 0), (2, 0), (2, 0), (2, 0), (2, 1), (2, 1)], [(0, 0), (1, 0), (2, 0), (2, 1)])

    def test_each_of_the_eight_directions(self):
        for x, y in ((0, 0), (5, 5), (-5, -2), (-1, 1)):
            for across in (-1, 0, 1):
                for down in (-1, 0, 1):
                    if across == 0 and down == 0:
                        continue
                    wanted = [(x + step * across, y + step * down) for step in range(5)]
                    self.check_way([(x, y), (x + 4 * across, y + 4 * down)], wanted)

    def test_both_at_once_then_straight(self):
        self.check_way([(0, 0), (5, 2)], [(0, 0), (1, 1), (2, 2), (3, 2), (4, 2), (5, 2)])
        self.check_way([(0, 0), (2, 5)], [(0, 0), (1, 1), (2, 2), (2, 3), (2, 4), (2, 5)])
        self.check_way([(0, 0), (-5, 2)], [(0, 0), (-1, 1), (-2, 2), (-3, 2), (-4, 2), (-5, 2)])
        self.check_way([(0, 0), (-2, -5)], [(0, 0), (-1, -1), (-2, -2), (-2, -3), (-2, -4), (-2, -5)])
        self.check_way([(5, 2), (0, 0)], [(5, 2), (4, 1), (3, 0), (2, 0), (1, 0), (0, 0)])
        self.check_way([(-3, 1), (1, -1)], [(-3, 1), (-2, 0), (-1, -1), (0, -1), (1, -1)])

    def test_each_corner_around(self):
        for x in range(-4, 5):
            for y in range(-4, 5):
                for start in ((0, 0), (2, -3)):
                    self.check_way([start, (x, y)], plain_way([start, (x, y)]))

    def test_forth_and_back_over_the_same_cells(self):
        self.check_way([(0, 0), (2, 0), (0, 0)], [(0, 0), (1, 0), (2, 0), (1, 0), (0, 0)])

    def test_many_corners(self):
        chance = random.Random(23)
        for number in range(200):
            corners = [(chance.randrange(-6, 13), chance.randrange(-6, 13)) for corner in range(chance.randrange(1, 9))]
            self.check_way(corners, plain_way(corners))

    def test_two_hundred_cells_and_more(self):
        self.check_way([(0, 0), (199, 0)], [(x, 0) for x in range(200)])
        self.check_way([(0, -150), (10, 149)], plain_way([(0, -150), (10, 149)]))

    def test_far_out(self):
        self.check_way([(FORTY, -FORTY), (FORTY - 2, 1 - FORTY)],
                       [(FORTY, -FORTY), (FORTY - 1, 1 - FORTY), (FORTY - 2, 1 - FORTY)])

    def test_the_list_of_corners_stays(self):
        corners = [(0, 0), (3, 1), (3, 1), (-2, 4)]
        told = way(corners)
        self.assertEqual(corners, [(0, 0), (3, 1), (3, 1), (-2, 4)])
        before = list(told)
        corners.clear()
        self.assertEqual(told, before)

    def test_the_list_told_is_a_new_one(self):
        for corners in ([(0, 0)], [(0, 0), (3, 1)]):
            told = way(corners)
            self.assertIsNot(told, corners)
            told.append((9, 9))
            told[0] = (8, 8)
            self.assertEqual(way(corners), plain_way(corners))
            self.assertEqual(corners[0], (0, 0))


class DabsTest(unittest.TestCase):
    def check_dabs(self, cells, every, carry):
        told = dabs(cells, every, carry)
        self.assertIs(type(told), tuple)
        self.assertEqual([type(part) for part in told], [list, int])
        self.assertEqual(told, plain_dabs(cells, every, carry))

    def test_by_hand(self):
        cells = [(x, 0) for x in range(7)]
        self.assertEqual(dabs(cells, 1), (cells, 0))
        self.assertEqual(dabs(cells, 3), ([(0, 0), (3, 0), (6, 0)], 1))
        self.assertEqual(dabs(cells, 3, 0), ([(0, 0), (3, 0), (6, 0)], 1))
        self.assertEqual(dabs(cells, 3, 1), ([(2, 0), (5, 0)], 2))
        self.assertEqual(dabs(cells, 3, 2), ([(1, 0), (4, 0)], 0))
        self.assertEqual(dabs(cells, 7), ([(0, 0)], 0))
        self.assertEqual(dabs(cells, 8), ([(0, 0)], 7))
        self.assertEqual(dabs(cells, 8, 1), ([], 0))
        self.assertEqual(dabs(cells, 8, 7), ([(1, 0)], 6))

    def test_each_every_and_carry(self):
        for many in range(len(CELLS) + 1):
            for every in range(1, 26):
                for carry in range(every):
                    self.check_dabs(CELLS[:many], every, carry)

    def test_without_a_carry(self):
        for many in range(len(CELLS) + 1):
            for every in range(1, 26):
                self.assertEqual(dabs(CELLS[:many], every), plain_dabs(CELLS[:many], every, 0))

    def test_every_far_above_the_number_of_cells(self):
        self.assertEqual(dabs(CELLS, FORTY), ([CELLS[0]], len(CELLS)))
        self.assertEqual(dabs(CELLS, FORTY, 5), ([], 5 + len(CELLS)))
        self.assertEqual(dabs(CELLS, FORTY, FORTY - 1), ([CELLS[1]], len(CELLS) - 1))
        self.assertEqual(dabs(CELLS, FORTY, FORTY - len(CELLS)), ([], 0))
        self.assertEqual(dabs(CELLS, 1000), ([CELLS[0]], len(CELLS)))

    def test_of_no_cells(self):
        for every in (1, 2, 7, FORTY):
            self.assertEqual(dabs([], every), ([], 0))
            for carry in (0, every // 2, every - 1):
                self.assertEqual(dabs([], every, carry), ([], carry))

    def test_cut_anywhere(self):
        for every in range(1, 14):
            for carry in range(every):
                whole = dabs(CELLS, every, carry)
                for cut in range(len(CELLS) + 1):
                    first = dabs(CELLS[:cut], every, carry)
                    second = dabs(CELLS[cut:], every, first[1])
                    self.assertEqual((first[0] + second[0], second[1]), whole)

    def test_cut_into_many_pieces(self):
        chance = random.Random(24)
        cells = way([(0, 0), (90, 30), (40, -60)])
        for number in range(60):
            every = chance.randrange(1, 40)
            carry = chance.randrange(every)
            found, left, now = [], list(cells), carry
            while left:
                piece = left[:chance.randrange(1, 30)]
                left = left[len(piece):]
                told, now = dabs(piece, every, now)
                found.extend(told)
            self.assertEqual((found, now), dabs(cells, every, carry))

    def test_the_list_handed_in_stays_and_the_told_one_is_new(self):
        cells = list(CELLS)
        for every in (1, 2):
            told = dabs(cells, every)
            self.assertEqual(cells, CELLS)
            self.assertIsNot(told[0], cells)
            told[0].clear()
            self.assertEqual(cells, CELLS)
            again = dabs(cells, every)
            cells.clear()
            self.assertEqual(again, plain_dabs(CELLS, every, 0))
            cells = list(CELLS)


class TipTest(unittest.TestCase):
    def check_spread(self, tip, cell, wanted):
        told = tip.spread(cell)
        self.assertIs(type(told), list)
        self.assertEqual(told, wanted)
        for part in told:
            self.assertEqual([type(one) for one in part], [tuple, int])

    def test_of_one_row(self):
        for weight in range(1, 17):
            self.check_spread(Tip([[weight]]), (3, 5), [((3, 5), weight)])
        self.check_spread(Tip([[0]]), (3, 5), [])

    def test_of_three_rows(self):
        self.check_spread(Tip(THREE), (5, 7), [
            ((4, 6), 1), ((5, 6), 2), ((6, 6), 3),
            ((4, 7), 4), ((5, 7), 5), ((6, 7), 6),
            ((4, 8), 7), ((5, 8), 8), ((6, 8), 9),
        ])

    def test_of_five_rows_without_weights_of_nought(self):
        wanted = [((x - 2, y + 8), FIVE[y][x]) for y in range(5) for x in range(5) if (x, y) not in ((0, 0), (2, 3))]
        self.check_spread(Tip(FIVE), (0, 10), wanted)
        self.assertEqual(wanted[0], ((-1, 8), 1))
        self.assertEqual(wanted[-1], ((2, 12), 10))
        self.assertEqual(len(wanted), 23)

    def test_weights_of_nought_are_left_out(self):
        self.check_spread(Tip([[0, 0, 0], [0, 0, 0], [0, 0, 0]]), (1, 1), [])
        self.check_spread(Tip([[0, 16, 0], [1, 0, 0], [0, 0, 2]]), (1, 1), [((1, 0), 16), ((0, 1), 1), ((2, 2), 2)])
        self.check_spread(Tip([[0] * 5] * 4 + [[0, 0, 0, 0, 3]]), (0, 0), [((2, 2), 3)])

    def test_cells_outside_of_any_picture(self):
        self.check_spread(Tip([[1, 0, 2], [0, 0, 0], [3, 0, 4]]), (0, 0),
                          [((-1, -1), 1), ((1, -1), 2), ((-1, 1), 3), ((1, 1), 4)])
        self.check_spread(Tip(ONE), (FORTY, -FORTY), [((FORTY, -FORTY), 16)])
        self.check_spread(Tip([[0, 0, 0], [0, 0, 7], [0, 0, 0]]), (-FORTY, FORTY), [((1 - FORTY, FORTY), 7)])

    def test_of_tuples(self):
        for rows in (tuple(tuple(row) for row in THREE), [tuple(row) for row in THREE], tuple(THREE)):
            self.assertEqual(Tip(rows).spread((2, 2)), Tip(THREE).spread((2, 2)))

    def test_one_tip_at_many_cells(self):
        tip = Tip(THREE)
        first = tip.spread((1, 1))
        tip.spread((5, 5))
        self.assertEqual(tip.spread((1, 1)), first)

    def test_the_rows_handed_in_stay(self):
        rows = [list(row) for row in FIVE]
        Tip(rows).spread((1, 1))
        self.assertEqual(rows, FIVE)

    def test_the_rows_handed_in_changed_behind(self):
        rows = [list(row) for row in THREE]
        tip = Tip(rows)
        wanted = Tip(THREE).spread((4, 4))
        rows[0][0] = 16
        rows[1].clear()
        self.assertEqual(tip.spread((4, 4)), wanted)
        rows.clear()
        self.assertEqual(tip.spread((4, 4)), wanted)

    def test_the_list_told_changed_behind(self):
        tip = Tip(THREE)
        told = tip.spread((4, 4))
        wanted = list(told)
        self.assertIsNot(told, tip.spread((4, 4)))
        told[0] = None
        told.pop()
        self.assertEqual(tip.spread((4, 4)), wanted)

    def test_like_rows_of_one_list(self):
        row = [1, 2, 3]
        tip = Tip([row, row, row])
        row[0] = 9
        self.assertEqual([weight for cell, weight in tip.spread((0, 0))], [1, 2, 3] * 3)


class NoTipTest(unittest.TestCase):
    def test_no_rows(self):
        for rows in ([], (), [[]], [()], ([],), [[], [], []], [[], [], [], [], []]):
            check_refused(self, NoTip, Tip, rows)

    def test_other_numbers_of_rows(self):
        for many in (2, 4, 6, 7, 8, 9, 11, 16):
            check_refused(self, NoTip, Tip, [[1] * many for row in range(many)])
            check_refused(self, NoTip, Tip, [[1, 2, 3]] * many)
            check_refused(self, NoTip, Tip, [[1, 2, 3, 4, 5]] * many)

    def test_rows_of_other_lengths(self):
        for many in (1, 3, 5):
            for place in range(many):
                for length in (0, many - 1, many + 1, many + 2, 16):
                    rows = [[1] * many for row in range(many)]
                    rows[place] = [1] * length
                    check_refused(self, NoTip, Tip, rows)
        check_refused(self, NoTip, Tip, [[1, 2, 3]])
        check_refused(self, NoTip, Tip, [[1], [2], [3]])
        check_refused(self, NoTip, Tip, [[1, 2, 3, 4, 5]] * 3)
        check_refused(self, NoTip, Tip, [[1, 2, 3]] * 5)

    def test_weights_that_are_no_sixteenths(self):
        wrong = (17, -1, FORTY, -FORTY, True, False, "", "1", "16", None, 1.0, 0.5, (1, 16), [1], (), {}, object())
        for many in (1, 3, 5):
            for x in range(many):
                for y in range(many):
                    for weight in wrong:
                        rows = [[1] * many for row in range(many)]
                        rows[y][x] = weight
                        check_refused(self, NoTip, Tip, rows)

    def test_rows_that_are_none(self):
        for row in (None, 1, 0, True, "abc", "1", {}, {0: 1, 1: 1, 2: 1}, {1, 2, 3}, range(3), 1.5, object()):
            check_refused(self, NoTip, Tip, [row])
            for place in range(3):
                rows = [[1, 2, 3] for number in range(3)]
                rows[place] = row
                check_refused(self, NoTip, Tip, rows)

    def test_what_is_no_square_at_all(self):
        for rows in (None, 1, 3, True, "", "1", "abc", {}, {0: [1]}, {1}, range(1), 1.0, object(), [1], [1, 2, 3], (16,)):
            check_refused(self, NoTip, Tip, rows)

    def test_the_rows_refused_are_not_changed(self):
        rows = [[1, 2, 3], [4, 5], [7, 8, 99]]
        check_refused(self, NoTip, Tip, rows)
        self.assertEqual(rows, [[1, 2, 3], [4, 5], [7, 8, 99]])


class ThickerTest(unittest.TestCase):
    def check_thicker(self, old, source, weight):
        dab = tuple(Fraction(weight) * part / 16 for part in source)
        check_told(self, thicker(pairs(old), pairs(source), weight), dab if dab[1] > old[1] else old)

    def test_by_hand(self):
        self.assertEqual(thicker(CLEAR, shade(4, 16), 16), shade(4, 16))
        self.assertEqual(thicker(CLEAR, shade(4, 16), 8), shade(2, 8))
        self.assertEqual(thicker(CLEAR, shade(4, 16), 1), ((1, 64), (1, 16)))
        self.assertEqual(thicker(shade(1, 4), shade(8, 16), 8), shade(4, 8))
        self.assertEqual(thicker(shade(0, 9), shade(8, 16), 8), shade(0, 9))

    def test_both_as_thick_the_old_one_stays(self):
        self.assertEqual(thicker(shade(0, 8), shade(16, 16), 8), shade(0, 8))
        self.assertEqual(thicker(shade(8, 8), shade(0, 16), 8), shade(8, 8))
        self.assertEqual(thicker(shade(3, 16), shade(5, 16), 16), shade(3, 16))
        self.assertEqual(thicker(CLEAR, CLEAR, 16), CLEAR)

    def test_weight_nought(self):
        for old in sources():
            for source in ((0, 0), (0, 1), (1, 1), (Fraction(1, 3), Fraction(1, 2))):
                self.assertEqual(thicker(pairs(old), pairs(source), 0), pairs(old))

    def test_weight_sixteen_is_the_source_itself(self):
        for source in sources():
            self.assertEqual(thicker(CLEAR, pairs(source), 16), pairs(source) if source[1] > 0 else CLEAR)

    def test_a_little_thicker_and_a_little_thinner(self):
        half = Fraction(1, 2)
        self.check_thicker((0, half), (half, half + TINY), 16)
        self.check_thicker((0, half), (half - TINY, half - TINY), 16)
        self.check_thicker((0, half - TINY), (1, 1), 8)
        self.check_thicker((0, half + TINY), (1, 1), 8)
        self.assertEqual(thicker(pairs((0, half - TINY)), shade(16, 16), 8), shade(8, 8))

    def test_each_old_shade_source_and_weight(self):
        for old in sources()[::3]:
            for source in sources()[1::3]:
                for weight in range(17):
                    self.check_thicker(old, source, weight)

    def test_the_colour_does_not_count(self):
        for colour in range(9):
            self.assertEqual(thicker(shade(colour, 8), shade(0, 9), 16), shade(0, 9))
            self.assertEqual(thicker(shade(0, 9), shade(colour, 8), 16), shade(0, 9))

    def test_dabs_one_behind_the_other(self):
        old = CLEAR
        for weight in (3, 9, 4, 16, 12):
            old = thicker(old, shade(6, 12), weight)
        self.assertEqual(old, shade(6, 12))
        self.assertEqual(exact(old), (Fraction(3, 8), Fraction(3, 4)))


if __name__ == "__main__":
    unittest.main()
