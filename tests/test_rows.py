"""The rows' own affairs: what lies in what, the rules that are kept, and twins that go their own way."""

import unittest

from glazehall.layers import new_adjust, new_group, new_paint
from glazehall.manners import adjusted, manner_of
from glazehall.rows import Rows
from glazehall.rules import IDENTITY, behind
from glazehall.shades import shade
from glazehall.tiles import Store

CELL = (0, 0)
OVER = manner_of("over").rule(shade(4, 8))


class RowsTest(unittest.TestCase):
    def rows(self):
        """A paint layer 1, and a group 2 with a group 3 and an adjusting layer 4 in it, 3 with a paint layer 5."""
        store = Store()
        rows = Rows()
        rows.enter(1, new_paint(store, "over"), 0, 0)
        rows.enter(2, new_group(store, "over", True), 0, 1)
        rows.enter(3, new_group(store, "over", True), 2, 0)
        rows.enter(4, new_adjust(store, 8, 4), 2, 1)
        rows.enter(5, new_paint(store, "over"), 3, 0)
        return rows, store

    def test_what_lies_in_what(self):
        rows, store = self.rows()
        self.assertEqual(rows.inside(0), [0, 1, 2, 3, 5, 4])
        self.assertEqual((rows.inside(2), rows.inside(5)), ([2, 3, 5, 4], [5]))
        self.assertEqual([rows.groups_around(into) for into in (0, 2, 3)], [0, 1, 2])
        self.assertEqual([rows.groups_inside(number) for number in (1, 2, 3, 4, 5, 99)], [0, 2, 1, 0, 0, 0])

    def test_the_row_without_a_layer(self):
        rows, store = self.rows()
        self.assertEqual((rows.others(1, 0), rows.others(9, 0), rows.others(3, 2)), ([2], [1, 2], [4]))

    def test_rules_are_kept_where_they_are_not_identity(self):
        rows, store = self.rows()
        rows.renew_all([CELL])
        self.assertEqual(rows.known, {0: {CELL: adjusted(8, 4)}, 1: {}, 2: {CELL: adjusted(8, 4)}, 3: {},
                                      4: {CELL: adjusted(8, 4)}, 5: {}})
        rows.stack[5].shades.put(CELL, shade(4, 8))
        rows.renew(5, CELL)
        whole = behind(OVER, adjusted(8, 4))
        self.assertEqual([rows.known[number].get(CELL) for number in range(6)],
                         [whole, None, whole, OVER, adjusted(8, 4), OVER])
        rows.stack[5].shades.put(CELL, shade(0, 0))
        rows.renew(5, CELL)
        self.assertEqual([rows.known[3], rows.known[5], rows.known[0]], [{}, {}, {CELL: adjusted(8, 4)}])

    def test_whether_a_rule_is_another_one(self):
        rows, store = self.rows()
        self.assertFalse(rows.renew_one(1, CELL))
        self.assertTrue(rows.renew_one(4, CELL))
        self.assertFalse(rows.renew_one(4, CELL))
        self.assertTrue(rows.renew_one(2, CELL))
        self.assertTrue(rows.renew_one(0, CELL))

    def test_a_layer_cleared_away_leaves_nothing(self):
        rows, store = self.rows()
        rows.stack[5].shades.put(CELL, shade(4, 8))
        rows.stack[3].veil.put(CELL, 5)
        rows.clear_away(2)
        self.assertEqual((sorted(rows.stack), rows.homes, rows.lines), ([1], {1: 0}, {0: [1]}))
        self.assertEqual((sorted(rows.known), store.counts()), ([0, 1], {}))

    def test_a_twin_goes_its_own_way(self):
        rows, store = self.rows()
        rows.renew_all([CELL])
        twin = rows.twin()
        rows.clear_away(2)
        rows.renew(0, CELL)
        self.assertEqual((rows.product(0, CELL), rows.inside(0)), (IDENTITY, [0, 1]))
        self.assertEqual((twin.known[0], twin.inside(0)), ({CELL: adjusted(8, 4)}, [0, 1, 2, 3, 5, 4]))
        twin.take_up(5)
        twin.lay(5, 0, 0)
        self.assertEqual((twin.lines, twin.homes), ({0: [5, 1, 2], 2: [3, 4], 3: []}, {1: 0, 2: 0, 3: 2, 4: 2, 5: 0}))


if __name__ == "__main__":
    unittest.main()
