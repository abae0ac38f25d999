"""Points 35 to 37: the tiles told of, the tiles that layers and stands have, and going back."""

import itertools
import unittest

from glazehall.hall import Hall
from glazehall.shades import CLEAR, shade
from glazehall.strokes import Tip
from hall_checks import Both, everything

DOT = [[16]]


class ToldTest(unittest.TestCase):
    def test_nothing_at_first(self):
        self.assertEqual(Hall(12, 12).told(), [])

    def test_row_and_column_of_a_tile(self):
        both = Both(self, 12, 11)
        paint = both.do("add_paint")
        for number, (x, y) in enumerate(((0, 0), (3, 3), (4, 3), (3, 4), (11, 0), (0, 10), (11, 10), (7, 8))):
            both.do("touch", paint, x, y, 1 + number, 16)
            self.assertEqual(both.hall.told(), [(y // 4, x // 4)])
        self.assertEqual(both.hall.told(), [(2, 1)])

    def test_sorted_and_each_once(self):
        both = Both(self, 12, 12)
        paint = both.do("add_paint")
        both.do("stroke", paint, [(11, 11), (0, 0), (0, 11), (1, 11)], 3, 9, DOT)
        self.assertEqual(both.hall.told(), [(0, 0), (1, 0), (1, 1), (2, 0), (2, 2)])
        both.do("add_adjust", 8, 8, 0, 1)
        self.assertEqual(both.hall.told(), [(row, column) for row in range(3) for column in range(3)])

    def test_only_tiles_with_another_rule(self):
        both = Both(self, 9, 5)
        paint = both.do("add_paint")
        both.do("touch", paint, 8, 4, 3, 9)
        for name, things, wanted in (
            ("strength", (paint, 5), [(1, 2)]), ("strength", (paint, 5), []), ("turn", (paint, "times"), [(1, 2)]),
            ("turn", (paint, "times"), []), ("mask", (paint, 0, 0, 3), []), ("mask", (paint, 8, 4, 3), [(1, 2)]),
            ("mask", (paint, 8, 4, 3), []), ("strength", (paint, 0), [(1, 2)]), ("touch", (paint, 8, 4, 7, 7), []),
            ("touch", (paint, 0, 0, 7, 7), []), ("strength", (paint, 16), [(0, 0), (1, 2)]),
            ("shift", (paint, 0, 0), []), ("move", (paint, (8, 4, 1, 1), -8, 0), [(1, 0), (1, 2)]),
            ("take", (paint,), [(0, 0), (1, 0)]),
        ):
            both.do(name, *things)
            self.assertEqual(both.hall.told(), wanted, (name, things))

    def test_deeds_that_change_no_rule(self):
        both = Both(self, 4, 4)
        paint = both.do("add_paint")
        group = both.do("add_group", "atop", False, 0, 1)
        for name, things in (
            ("add_paint", ()), ("add_group", ()), ("add_adjust", (16, 0)), ("touch", (paint, 0, 0, 0, 0)),
            ("turn", (paint, "under")), ("shift", (paint, group, 0)), ("strength", (group, 3)), ("take", (paint,)),
            ("mask", (group, 0, 0, 3)), ("take", (group,)),
        ):
            both.do(name, *things)
            self.assertEqual(both.hall.told(), [], (name, things))

    def test_what_another_layer_hides(self):
        """A layer beneath one that hides all: its shade is another one, but the cell's rule is not."""
        both = Both(self, 5, 1)
        low = both.do("add_paint")
        high = both.do("add_paint", "over", 0, 1)
        both.do("touch", high, 0, 0, 3, 16)
        both.do("touch", low, 0, 0, 9, 12)
        self.assertEqual(both.hall.told(), [])
        both.do("touch", low, 4, 0, 9, 12)
        self.assertEqual(both.hall.told(), [(0, 1)])
        both.do("strength", low, 4)
        self.assertEqual(both.hall.told(), [(0, 1)])
        both.do("shift", low, 0, 1)
        self.assertEqual(both.hall.told(), [(0, 0)])

    def test_another_rule_that_shows_only_over_some_grounds(self):
        both = Both(self, 1, 1)
        paint = both.do("add_paint", "atop")
        both.do("touch", paint, 0, 0, 5, 5)
        self.assertEqual((both.hall.told(), both.hall.show(0, 0)), ([(0, 0)], CLEAR))

    def test_deep_in_groups(self):
        both = Both(self, 5, 1)
        outer = both.do("add_group", "over", True)
        middle = both.do("add_group", "over", False, outer)
        inner = both.do("add_group", "over", True, middle)
        paint = both.do("add_paint", "screen", inner)
        both.do("touch", paint, 4, 0, 5, 5)
        self.assertEqual(both.hall.told(), [(0, 1)])
        both.do("mask", middle, 4, 0, 0)
        self.assertEqual(both.hall.told(), [(0, 1)])
        both.do("touch", paint, 4, 0, 6, 6)
        self.assertEqual(both.hall.told(), [])
        both.do("shift", inner, outer, 0)
        self.assertEqual(both.hall.told(), [(0, 1)])

    def test_a_stand_and_a_let_go_leave_it(self):
        both = Both(self, 5, 1)
        paint = both.do("add_paint")
        both.do("touch", paint, 4, 0, 5, 5)
        stand = both.do("stand")
        self.assertEqual(both.hall.told(), [(0, 1)])
        both.do("let_go", stand)
        self.assertEqual(both.hall.told(), [(0, 1)])

    def test_a_going_back_is_a_deed(self):
        both = Both(self, 9, 1)
        paint = both.do("add_paint")
        first = both.do("stand")
        both.do("touch", paint, 8, 0, 5, 5)
        both.do("touch", paint, 0, 0, 5, 5)
        second = both.do("stand")
        for number, wanted in ((first, [(0, 0), (0, 2)]), (first, []), (second, [(0, 0), (0, 2)]), (second, [])):
            both.do("back", number)
            self.assertEqual(both.hall.told(), wanted)

    def test_questions_and_refusals_leave_it(self):
        both = Both(self, 5, 1)
        paint = both.do("add_paint")
        both.do("touch", paint, 4, 0, 5, 5)
        everything(both.hall)
        for refusal, name, things in (
            ("NoLayer", "take", (9,)), ("NoStand", "back", (1,)), ("NoStand", "let_go", (1,)), ("NoLayer", "order", (paint,)),
        ):
            both.refuse(refusal, name, *things)
            self.assertEqual(both.hall.told(), [(0, 1)])


class TilesTest(unittest.TestCase):
    def test_by_hand(self):
        hall = Hall(8, 8)
        paint, group = hall.add_paint(), hall.add_group()
        self.assertEqual(hall.tiles(), {})
        hall.touch(paint, 5, 5, 1, 1)
        hall.mask(group, 0, 0, 7)
        hall.mask(paint, 5, 5, 7)
        self.assertEqual(hall.tiles(), {1: 1, 2: 1, 3: 1})
        hall.touch(paint, 4, 7, 2, 2)
        self.assertEqual(hall.tiles(), {1: 1, 2: 1, 3: 1})
        stand = hall.stand()
        self.assertEqual(hall.tiles(), {1: 2, 2: 2, 3: 2})
        hall.touch(paint, 4, 7, 3, 3)
        self.assertEqual(hall.tiles(), {1: 1, 2: 2, 3: 2, 4: 1})
        hall.touch(paint, 4, 7, 4, 4)
        self.assertEqual(hall.tiles(), {1: 1, 2: 2, 3: 2, 4: 1})
        hall.take(group)
        self.assertEqual(hall.tiles(), {1: 1, 2: 1, 3: 2, 4: 1})
        hall.back(stand)
        self.assertEqual(hall.tiles(), {1: 2, 2: 2, 3: 2})
        hall.let_go(stand)
        self.assertEqual(hall.tiles(), {1: 1, 2: 1, 3: 1})
        hall.touch(paint, 0, 0, 1, 1)
        self.assertEqual(hall.tiles(), {1: 1, 2: 1, 3: 1, 5: 1})

    def test_putting_what_stands_there_changes_nothing(self):
        both = Both(self, 5, 5)
        paint = both.do("add_paint")
        for name, things in (
            ("touch", (0, 0, 0, 0)), ("mask", (0, 0, 16)), ("stroke", ([(0, 0), (4, 4)], 0, 0, DOT)),
            ("stroke", ([(0, 0)], 5, 5, [[0]])), ("move", ((0, 0, 5, 5), 1, 0)),
        ):
            both.do(name, paint, *things)
            self.assertEqual(both.hall.tiles(), {}, name)
        both.do("touch", paint, 0, 0, 3, 9)
        both.do("mask", paint, 0, 0, 3)
        both.do("stand")
        for name, things in (
            ("touch", (0, 0, 3, 9)), ("mask", (0, 0, 3)), ("touch", (1, 1, 0, 0)), ("mask", (1, 1, 16)),
            ("stroke", ([(0, 0), (4, 4)], 0, 0, DOT)), ("stroke", ([(0, 0)], 9, 9, DOT)), ("move", ((4, 4, 1, 1), 0, 0)),
            ("move", ((0, 0, 5, 5), 0, 0)), ("touch", (4, 4, 0, 0)), ("mask", (4, 4, 16)),
        ):
            both.do(name, paint, *things)
            self.assertEqual(both.hall.tiles(), {1: 2, 2: 2}, name)

    def test_a_tile_that_is_clear_again_is_kept(self):
        both = Both(self, 4, 4)
        paint = both.do("add_paint")
        both.do("touch", paint, 0, 0, 3, 9)
        both.do("touch", paint, 0, 0, 0, 0)
        both.do("mask", paint, 0, 0, 3)
        both.do("mask", paint, 0, 0, 16)
        self.assertEqual(both.hall.tiles(), {1: 1, 2: 1})

    def test_a_move_puts_by_y_then_x(self):
        both = Both(self, 8, 8)
        paint = both.do("add_paint")
        both.do("touch", paint, 7, 7, 3, 9)
        both.do("move", paint, (7, 7, 1, 1), -6, -6)
        self.assertEqual(both.hall.tiles(), {1: 1, 2: 1})
        both.do("stand")
        both.do("move", paint, (1, 1, 1, 1), 4, 0)
        self.assertEqual(both.hall.tiles(), {1: 2, 2: 1, 3: 1, 4: 1})
        both.do("touch", paint, 1, 1, 5, 5)
        both.do("take", paint)
        self.assertEqual(both.hall.tiles(), {1: 1, 2: 1})

    def test_the_order_in_which_a_stroke_and_a_move_take_keys(self):
        """Two tiles that another stand has: the keys tell which of them was put to first."""
        both = Both(self, 8, 4)
        paint = both.do("add_paint")
        both.do("stroke", paint, [(7, 0), (0, 0)], 3, 9, DOT)
        self.assertEqual(both.hall.tiles(), {1: 1, 2: 1})
        stand = both.do("stand")
        both.do("move", paint, (4, 0, 1, 1), 0, 1)
        self.assertEqual(both.hall.tiles(), {1: 1, 2: 2, 3: 1})
        both.do("back", stand)
        both.do("stroke", paint, [(0, 1), (7, 1)], 3, 9, DOT)
        both.do("let_go", stand)
        both.do("move", paint, (0, 0, 4, 4), 9, 0)
        self.assertEqual(both.hall.tiles(), {4: 1, 5: 1})

    def test_taken_layers_drop_theirs(self):
        both = Both(self, 4, 4)
        group = both.do("add_group")
        inner = both.do("add_group", "over", True, group)
        paints = [both.do("add_paint", "over", into) for into in (0, group, inner)]
        for number in paints + [group, inner]:
            both.do("mask", number, 1, 1, 5)
        for number in paints:
            both.do("touch", number, 2, 2, 5, 5)
        self.assertEqual(both.hall.tiles(), {key: 1 for key in range(1, 9)})
        both.do("take", group)
        self.assertEqual(both.hall.tiles(), {1: 1, 6: 1})
        both.do("take", paints[0])
        self.assertEqual(both.hall.tiles(), {})
        paint = both.do("add_paint")
        both.do("touch", paint, 0, 0, 1, 1)
        self.assertEqual(both.hall.tiles(), {9: 1})

    def test_keys_rise(self):
        both = Both(self, 12, 12)
        paint = both.do("add_paint")
        for x, y in itertools.product((11, 5, 0), repeat=2):
            both.do("touch", paint, x, y, 1, 3)
            both.do("mask", paint, y, x, 5)
            self.assertEqual(list(both.hall.tiles()), sorted(both.hall.tiles()))
        both.do("stand")
        both.do("touch", paint, 5, 5, 7, 7)
        both.do("touch", paint, 11, 11, 7, 7)
        self.assertEqual(list(both.hall.tiles()), sorted(both.hall.tiles()))

    def test_a_refused_deed_takes_no_key(self):
        both = Both(self, 4, 4)
        paint = both.do("add_paint")
        both.refuse("NoPlace", "touch", paint, 4, 0, 3, 3)
        both.refuse("NoShade", "touch", paint, 0, 0, 4, 3)
        both.refuse("NoShade", "stroke", paint, [(0, 0)], 4, 3, DOT)
        both.refuse("NoSixteenth", "mask", paint, 0, 0, 17)
        both.do("touch", paint, 0, 0, 3, 3)
        self.assertEqual(both.hall.tiles(), {1: 1})


class StandsTest(unittest.TestCase):
    def test_numbers(self):
        both = Both(self, 1, 1)
        self.assertEqual([both.do("stand") for number in range(3)], [1, 2, 3])
        self.assertEqual(both.hall.stands(), [1, 2, 3])
        both.do("let_go", 3)
        both.do("let_go", 1)
        self.assertEqual(both.hall.stands(), [2])
        both.do("back", 2)
        self.assertEqual(both.do("stand"), 4)
        both.do("let_go", 2)
        both.do("let_go", 4)
        self.assertEqual((both.hall.stands(), both.do("stand")), ([], 5))

    def test_numbers_that_no_stand_has(self):
        both = Both(self, 1, 1)
        for name in ("back", "let_go"):
            both.refuse("NoStand", name, 1)
        stand = both.do("stand")
        for number in (0, 2, -1, 10 ** 39, True, None, "1"):
            both.refuse("NoStand", "back", number)
            both.refuse("NoStand", "let_go", number)
        both.do("let_go", stand)
        for name in ("back", "let_go"):
            both.refuse("NoStand", name, stand)

    def full(self):
        both = Both(self, 6, 5)
        group = both.do("add_group", "under", False)
        paint = both.do("add_paint", "screen", group)
        adjust = both.do("add_adjust", 5, 6, group, 1)
        top = both.do("add_paint", "over", 0, 1)
        both.do("stroke", paint, [(0, 0), (5, 4)], 5, 9, [[1, 2, 3], [4, 16, 6], [7, 8, 9]])
        both.do("touch", top, 5, 0, 6, 16)
        both.do("mask", group, 1, 1, 3)
        both.do("mask", adjust, 5, 4, 0)
        both.do("strength", top, 9)
        return both, group, paint, adjust, top

    def told_of_layers(self, hall):
        return everything(hall)[3:]

    def test_gone_back_everything_is_as_it_was(self):
        both, group, paint, adjust, top = self.full()
        ahead = self.told_of_layers(both.hall)
        stand = both.do("stand")
        for deeds in (
            [("touch", (paint, 0, 0, 1, 16)), ("mask", (group, 1, 1, 9)), ("turn", (paint, "atop"))],
            [("take", (group,)), ("strength", (top, 3))], [("shift", (top, group, 0)), ("move", (top, (0, 0, 6, 5), 1, 1))],
            [("take", (top,)), ("take", (group,))], [("shift", (paint, 0, 0)), ("shift", (adjust, 0, 0))], [],
        ):
            for name, things in deeds:
                both.do(name, *things)
            both.do("back", stand)
            self.assertEqual(self.told_of_layers(both.hall), ahead)
            self.assertEqual(both.hall.stands(), [stand])
            self.assertEqual(set(both.hall.tiles().values()), {2})

    def test_numbers_of_layers_go_on(self):
        both, *numbers = self.full()
        stand = both.do("stand")
        self.assertEqual([both.do("add_paint"), both.do("add_group")], [5, 6])
        both.do("back", stand)
        self.assertEqual(both.do("add_paint"), 7)

    def test_deeds_behind_a_stand_leave_the_stand(self):
        both, group, paint, adjust, top = self.full()
        both.do("stand")
        both.do("touch", paint, 0, 0, 1, 16)
        both.do("stand")
        both.do("take", group)
        both.do("stand")
        for stand in (1, 2, 3, 1, 3, 2, 1):
            both.do("back", stand)
            both.do("touch", top, 0, 0, stand, 16)
            both.do("mask", top, 5, 4, stand)
        both.do("let_go", 1)
        for stand in (2, 3, 2):
            both.do("back", stand)
            if stand == 3:
                both.do("let_go", stand)
        both.do("let_go", 2)
        self.assertEqual(set(both.hall.tiles().values()), {1})

    def test_a_stand_let_go_leaves_the_hall(self):
        both, *numbers = self.full()
        ahead = self.told_of_layers(both.hall)
        tiles = both.hall.tiles()
        both.do("let_go", both.do("stand"))
        self.assertEqual((self.told_of_layers(both.hall), both.hall.tiles()), (ahead, tiles))

    def test_of_an_empty_hall(self):
        both = Both(self, 4, 4)
        stand = both.do("stand")
        paint = both.do("add_paint")
        both.do("touch", paint, 0, 0, 5, 5)
        both.do("back", stand)
        self.assertEqual((both.hall.order(), both.hall.tiles(), both.hall.told()), ([], {}, [(0, 0)]))
        both.refuse("NoLayer", "cell", paint, 0, 0)

    def test_twenty_stands(self):
        both = Both(self, 4, 4)
        paint = both.do("add_paint")
        for number in range(20):
            both.do("touch", paint, number % 4, number // 4 % 4, number % 17, 16)
            both.do("stand")
        self.assertEqual(sum(both.hall.tiles().values()), 21)
        for number in (20, 1, 7, 13):
            both.do("back", number)
        for number in range(1, 21):
            both.do("let_go", number)
        self.assertEqual(len(both.hall.tiles()), 1)

    def test_what_a_tip_leaves_is_shared(self):
        hall = Hall(4, 4)
        paint = hall.add_paint()
        hall.stroke(paint, [(0, 0), (3, 3)], 5, 9, Tip(DOT))
        stand = hall.stand()
        hall.stroke(paint, [(3, 0), (0, 3)], 6, 16, Tip(DOT))
        self.assertEqual(hall.tiles(), {1: 1, 2: 1})
        hall.back(stand)
        self.assertEqual((hall.tiles(), hall.cell(paint, 3, 0), hall.cell(paint, 3, 3)), ({1: 2}, CLEAR, shade(5, 9)))


if __name__ == "__main__":
    unittest.main()
