"""Point 27: what lies in a stretch of a picture, moved."""

import random
import unittest

from glazehall.moves import moved
from glazehall.shades import CLEAR, shade
from helpers import FORTY, plain_moved


def picture(rows):
    """A dict of cells of a picture drawn by rows of signs; a dot is a cell with nothing in it."""
    return {(x, y): thing for y, row in enumerate(rows) for x, thing in enumerate(row) if thing != "."}


class MovesCase(unittest.TestCase):
    def check_moved(self, rows, stretch, across, down, wanted):
        cells = picture(rows)
        told = moved(cells, (len(rows[0]), len(rows)), stretch, across, down)
        self.assertIs(type(told), dict)
        self.assertIsNot(told, cells)
        self.assertEqual(told, picture(wanted))
        self.assertEqual(cells, picture(rows))


class InsideTest(MovesCase):
    def test_one_cell(self):
        self.check_moved(["abc", "def", "ghi"], (1, 1, 1, 1), 1, 0, ["abc", "d.e", "ghi"])
        self.check_moved(["abc", "def", "ghi"], (1, 1, 1, 1), -1, 0, ["abc", "e.f", "ghi"])
        self.check_moved(["abc", "def", "ghi"], (1, 1, 1, 1), 0, 1, ["abc", "d.f", "gei"])
        self.check_moved(["abc", "def", "ghi"], (1, 1, 1, 1), 0, -1, ["aec", "d.f", "ghi"])
        self.check_moved(["abc", "def", "ghi"], (0, 0, 1, 1), 2, 2, [".bc", "def", "gha"])

    def test_by_less_than_the_stretch_is_wide_and_high(self):
        self.check_moved(["abcde", "fghij"], (0, 0, 3, 2), 1, 0, [".abce", ".fghj"])
        self.check_moved(["abcde", "fghij"], (2, 0, 3, 2), -1, 0, ["acde.", "fhij."])
        self.check_moved(["ab", "cd", "ef", "gh"], (0, 0, 1, 3), 0, 1, [".b", "ad", "cf", "eh"])
        self.check_moved(["ab", "cd", "ef", "gh"], (0, 1, 1, 3), 0, -1, ["cb", "ed", "gf", ".h"])
        self.check_moved(["abcd", "efgh", "ijkl"], (0, 0, 3, 2), 1, 1, ["...d", ".abc", "iefg"])

    def test_by_more_than_the_stretch_is_wide_and_high(self):
        self.check_moved(["abcdef"], (0, 0, 2, 1), 3, 0, ["..cabf"])
        self.check_moved(["abcdef"], (4, 0, 2, 1), -4, 0, ["efcd.."])
        self.check_moved(["ab", "cd", "ef", "gh"], (0, 0, 2, 1), 0, 3, ["..", "cd", "ef", "ab"])

    def test_by_nought_and_nought(self):
        rows = ["abc", "d.f", "ghi"]
        for stretch in ((0, 0, 3, 3), (1, 1, 1, 1), (0, 1, 2, 2), (-2, -2, 9, 9), (7, 7, 1, 1), (-1, 0, 1, 3)):
            self.check_moved(rows, stretch, 0, 0, rows)

    def test_the_whole_picture(self):
        self.check_moved(["abc", "def"], (0, 0, 3, 2), 1, 1, ["...", ".ab"])
        self.check_moved(["abc", "def"], (0, 0, 3, 2), -1, 0, ["bc.", "ef."])
        self.check_moved(["abc", "def"], (0, 0, 3, 2), 3, 0, ["...", "..."])

    def test_a_picture_of_one_cell(self):
        self.check_moved(["a"], (0, 0, 1, 1), 0, 0, ["a"])
        self.check_moved(["a"], (0, 0, 1, 1), 1, 0, ["."])
        self.check_moved(["a"], (1, 0, 1, 1), -1, 0, ["a"])
        self.check_moved(["."], (0, 0, 1, 1), 0, 0, ["."])


class BeyondTest(MovesCase):
    def test_a_stretch_partly_beyond(self):
        self.check_moved(["abc", "def", "ghi"], (-1, -1, 2, 2), 1, 1, [".bc", "daf", "ghi"])
        self.check_moved(["abc", "def", "ghi"], (2, 2, 5, 5), -2, -2, ["ibc", "def", "gh."])
        self.check_moved(["abc", "def", "ghi"], (1, -3, 1, 20), 1, 0, ["a.b", "d.e", "g.h"])

    def test_from_beyond_the_picture_nothing_comes(self):
        # Cells beyond the edge would come to a, b, d and e; but only the picture's own are moved.
        self.check_moved(["abc", "def"], (-2, 0, 2, 2), 2, 0, ["abc", "def"])
        self.check_moved(["abc", "def"], (-2, 0, 3, 2), 1, 0, [".ac", ".df"])
        self.check_moved(["abc", "def"], (0, -1, 3, 2), 0, 1, ["...", "abc"])

    def test_a_stretch_wholly_beyond(self):
        for stretch in ((3, 0, 2, 2), (-2, 0, 2, 2), (0, 2, 3, 3), (0, -4, 3, 4), (90, 90, 1, 1), (-9, -9, 3, 3)):
            for across, down in ((0, 0), (1, 0), (-3, 0), (3, -2), (9, 9), (-90, -90)):
                self.check_moved(["abc", "def"], stretch, across, down, ["abc", "def"])

    def test_out_of_the_picture(self):
        self.check_moved(["abc", "def"], (0, 0, 2, 1), 3, 0, ["..c", "def"])
        self.check_moved(["abc", "def"], (0, 0, 2, 1), 0, -1, ["..c", "def"])
        self.check_moved(["abc", "def"], (1, 0, 2, 2), 0, 7, ["a..", "d.."])

    def test_partly_out_of_the_picture(self):
        self.check_moved(["abcd"], (1, 0, 2, 1), 2, 0, ["a..b"])
        self.check_moved(["abcd"], (1, 0, 2, 1), -2, 0, ["c..d"])
        self.check_moved(["ab", "cd", "ef"], (0, 1, 2, 2), 1, 1, ["ab", "..", ".c"])

    def test_far_out(self):
        rows = ["abc", "def"]
        self.check_moved(rows, (0, 0, 1, 1), FORTY, -FORTY, [".bc", "def"])
        self.check_moved(rows, (-FORTY, -FORTY, 2 * FORTY, 2 * FORTY), 1, 0, [".ab", ".de"])
        self.check_moved(rows, (-FORTY, 0, FORTY + 1, 1), 1, 1, [".bc", "daf"])
        self.check_moved(rows, (FORTY, FORTY, FORTY, FORTY), -FORTY, -FORTY, rows)


class NothingTest(MovesCase):
    def test_cells_with_nothing_come_too(self):
        self.check_moved(["a.cd", "efgh"], (0, 0, 2, 1), 2, 0, ["..a.", "efgh"])
        self.check_moved([".bc"], (0, 0, 1, 1), 1, 0, ["..c"])
        self.check_moved(["...", "def"], (0, 0, 3, 1), 0, 1, ["...", "..."])

    def test_onto_cells_with_nothing(self):
        self.check_moved(["ab.."], (0, 0, 2, 1), 2, 0, ["..ab"])
        self.check_moved(["ab.."], (0, 0, 2, 1), 1, 0, [".ab."])

    def test_a_picture_with_nothing(self):
        self.check_moved(["..", ".."], (0, 0, 1, 2), 1, 0, ["..", ".."])

    def test_things_that_say_no(self):
        cells = {(0, 0): None, (1, 0): 0, (2, 0): False, (3, 0): "", (4, 0): ()}
        told = moved(cells, (6, 1), (0, 0, 5, 1), 1, 0)
        self.assertEqual(told, {(1, 0): None, (2, 0): 0, (3, 0): False, (4, 0): "", (5, 0): ()})
        self.assertIs(told[(3, 0)], False)

    def test_shades(self):
        cells = {(0, 0): shade(4, 16), (1, 0): CLEAR}
        self.assertEqual(moved(cells, (3, 1), (0, 0, 2, 1), 1, 0), {(1, 0): shade(4, 16), (2, 0): CLEAR})


class NewDictTest(MovesCase):
    def test_the_dict_handed_in_stays(self):
        cells = picture(["abc", "d.f", "ghi"])
        before = list(cells.items())
        for stretch, across, down in (((0, 0, 2, 2), 1, 1), ((0, 0, 9, 9), 5, 5), ((1, 1, 1, 1), -1, 0)):
            moved(cells, (3, 3), stretch, across, down)
            self.assertEqual(list(cells.items()), before)

    def test_the_dict_told_may_be_changed(self):
        cells = picture(["abc"])
        for stretch, across in (((0, 0, 1, 1), 0), ((0, 0, 1, 1), 1), ((5, 5, 1, 1), 1)):
            told = moved(cells, (3, 1), stretch, across, 0)
            self.assertIsNot(told, cells)
            told[(0, 0)] = "z"
            told.clear()
            self.assertEqual(cells, picture(["abc"]))

    def test_the_dict_handed_in_changed_behind(self):
        cells = picture(["abc"])
        told = moved(cells, (3, 1), (0, 0, 1, 1), 1, 0)
        cells.clear()
        self.assertEqual(told, picture([".ac"]))

    def test_lists_and_dicts_among_the_things(self):
        lifted = [1, {2: [3]}]
        left = [4]
        cells = {(0, 0): lifted, (2, 0): left}
        told = moved(cells, (3, 1), (0, 0, 1, 1), 1, 0)
        wanted = {(1, 0): [1, {2: [3]}], (2, 0): [4]}
        self.assertEqual(told, wanted)
        lifted[1][2].append(9)
        left.append(9)
        self.assertEqual(told, wanted)
        told[(1, 0)].clear()
        told[(2, 0)].clear()
        self.assertEqual(cells, {(0, 0): [1, {2: [3, 9]}], (2, 0): [4, 9]})

    def test_the_size_and_the_stretch_are_not_changed(self):
        size, stretch = [3, 1], [0, 0, 1, 1]
        moved(picture(["abc"]), size, stretch, 1, 0)
        self.assertEqual((size, stretch), ([3, 1], [0, 0, 1, 1]))


class ManyTest(MovesCase):
    def test_each_stretch_of_a_small_picture(self):
        cells = picture(["ab.", "c.d"])
        spans = [(x, wide) for x in range(-2, 4) for wide in range(1, 6)]
        for x, wide in spans:
            for y, high in ((-1, 1), (-1, 2), (0, 1), (0, 3), (1, 1), (2, 2)):
                for across in range(-4, 5):
                    for down in (-2, -1, 0, 1, 2):
                        told = moved(cells, (3, 2), (x, y, wide, high), across, down)
                        self.assertEqual(told, plain_moved(cells, (3, 2), (x, y, wide, high), across, down))

    def test_drawn_ones(self):
        chance = random.Random(27)
        for number in range(400):
            size = (chance.randrange(1, 13), chance.randrange(1, 13))
            places = [(x, y) for x in range(size[0]) for y in range(size[1])]
            cells = {cell: chance.randrange(9) for cell in places if chance.randrange(3)}
            stretch = (chance.randrange(-5, 14), chance.randrange(-5, 14), chance.randrange(1, 15), chance.randrange(1, 15))
            across, down = chance.randrange(-13, 14), chance.randrange(-13, 14)
            before = dict(cells)
            told = moved(cells, size, stretch, across, down)
            self.assertEqual(told, plain_moved(cells, size, stretch, across, down))
            self.assertEqual(cells, before)

    def test_one_behind_the_other(self):
        cells = picture(["abcd"])
        told = moved(moved(cells, (4, 1), (0, 0, 2, 1), 1, 0), (4, 1), (1, 0, 2, 1), -1, 0)
        self.assertEqual(told, picture(["ab.d"]))


if __name__ == "__main__":
    unittest.main()
