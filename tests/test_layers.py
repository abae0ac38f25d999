"""The layers' own affairs: where a cell lies, sheets that keep things by tiles of a store, and layers that leave."""

import unittest

from glazehall.errors import NoGain, NoManner
from glazehall.layers import Sheet, new_adjust, new_group, new_paint, place_of, tile_of
from glazehall.manners import adjusted
from glazehall.rules import IDENTITY
from glazehall.shades import CLEAR, shade
from glazehall.tiles import Store
from helpers import check_refused


class CellTest(unittest.TestCase):
    def test_tiles_and_places(self):
        for x, y, tile, place in (
            (0, 0, (0, 0), 0), (3, 0, (0, 0), 3), (4, 0, (0, 1), 0), (0, 3, (0, 0), 12), (0, 4, (1, 0), 0),
            (11, 2, (0, 2), 11), (2, 11, (2, 0), 14), (6, 9, (2, 1), 6), (11, 11, (2, 2), 15),
        ):
            self.assertEqual((tile_of((x, y)), place_of((x, y))), (tile, place))

    def test_each_cell_has_a_place_of_its_own(self):
        cells = [(x, y) for x in range(12) for y in range(12)]
        self.assertEqual(len({(tile_of(cell), place_of(cell)) for cell in cells}), 144)
        self.assertEqual({place_of(cell) for cell in cells}, set(range(16)))


class SheetTest(unittest.TestCase):
    def test_blank_until_something_else_is_put(self):
        store = Store()
        sheet = Sheet(store, 16)
        self.assertEqual(sheet.thing((5, 5)), 16)
        sheet.put((5, 5), 16)
        self.assertEqual(store.counts(), {})
        sheet.put((5, 5), 3)
        self.assertEqual((sheet.thing((5, 5)), sheet.thing((4, 5)), sheet.thing((1, 1))), (3, 16, 16))
        self.assertEqual(store.get(1), [16] * 5 + [3] + [16] * 10)
        sheet.put((5, 5), 16)
        self.assertEqual((sheet.thing((5, 5)), store.counts()), (16, {1: 1}))

    def test_a_twin_has_the_same_and_goes_its_own_way(self):
        store = Store()
        sheet = Sheet(store, CLEAR)
        sheet.put((0, 0), shade(1, 2))
        sheet.put((4, 0), shade(3, 4))
        twin = sheet.twin()
        self.assertEqual(store.counts(), {1: 2, 2: 2})
        twin.put((4, 0), shade(5, 6))
        twin.put((0, 4), shade(7, 8))
        self.assertEqual((sheet.thing((4, 0)), twin.thing((4, 0))), (shade(3, 4), shade(5, 6)))
        self.assertEqual((sheet.thing((0, 4)), twin.thing((0, 4))), (CLEAR, shade(7, 8)))
        self.assertEqual(store.counts(), {1: 2, 2: 1, 3: 1, 4: 1})
        sheet.leave()
        self.assertEqual((store.counts(), twin.thing((0, 0))), ({1: 1, 3: 1, 4: 1}, shade(1, 2)))
        twin.leave()
        self.assertEqual(store.counts(), {})


class LayerTest(unittest.TestCase):
    def layers(self, store):
        return (new_paint(store, "atop"), new_adjust(store, 8, 4), new_group(store, "times", True))

    def test_at_first(self):
        paint, adjust, group = self.layers(Store())
        self.assertEqual(paint.listed(7), ("paint", 7, 16, "atop"))
        self.assertEqual(adjust.listed(0), ("adjust", 0, 16, 8, 4))
        self.assertEqual(group.listed(3), ("group", 3, 16, "times", True))
        self.assertEqual(paint.plan((1, 1), ()), ("paint", "atop", (1, 1), CLEAR))
        self.assertEqual(adjust.plan((1, 1), ()), ("adjust", 8, 4, (1, 1)))
        plans = (paint.plan((1, 1), ()),)
        self.assertEqual(group.plan((1, 1), plans), ("group", "times", True, (1, 1), plans))

    def test_rules(self):
        paint, adjust, group = self.layers(Store())
        self.assertEqual(paint.rule_by((0, 0), IDENTITY), IDENTITY)
        self.assertEqual(adjust.rule_by((0, 0), IDENTITY), adjusted(8, 4))
        self.assertEqual(group.rule_by((0, 0), adjusted(8, 4)), adjusted(8, 4))
        group.veil.put((0, 0), 0)
        self.assertEqual(group.rule_by((0, 0), adjusted(8, 4)), IDENTITY)

    def test_twins(self):
        store = Store()
        for layer in self.layers(store):
            layer.power = 5
            layer.veil.put((0, 0), 3)
            twin = layer.twin()
            layer.power = 6
            layer.veil.put((0, 0), 4)
            self.assertEqual((twin.power, twin.veil.thing((0, 0)), layer.veil.thing((0, 0))), (5, 3, 4))
            self.assertEqual(twin.listed(0)[3:], layer.listed(0)[3:])
            twin.leave()
            layer.leave()
        self.assertEqual(store.counts(), {})

    def test_refused(self):
        store = Store()
        for word in ("", "Over", None, 3):
            check_refused(self, NoManner, new_paint, store, word)
            check_refused(self, NoManner, new_group, store, word, False)
        check_refused(self, NoGain, new_adjust, store, 9, 8)


if __name__ == "__main__":
    unittest.main()
