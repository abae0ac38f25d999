"""Points 30 to 33: the picture, numbers and rows, and what each deed leaves, by hand and by the plain table."""

import inspect
import itertools
import random
import unittest
from fractions import Fraction

from glazehall.errors import NoPlace
from glazehall.hall import Hall
from glazehall.manners import adjusted, manner_of
from glazehall.plans import rule_of_all
from glazehall.rules import IDENTITY, behind, laid
from glazehall.shades import CLEAR, shade
from glazehall.strokes import Tip
from hall_checks import ALL_GROUNDS, Both, check_all
from helpers import FORTY, WORDS, check_refused, check_told, pairs, some_shade

DOT = [[16]]
CROSS = [[0, 8, 0], [8, 16, 8], [0, 8, 0]]
SQUARE = [[4, 6, 8, 6, 4], [6, 10, 12, 10, 6], [8, 12, 16, 12, 0], [6, 10, 12, 10, 6], [4, 6, 0, 6, 1]]
ARGUMENTS = {
    "add_paint": [("word", "over"), ("into", 0), ("at", 0)],
    "add_adjust": ["gain", "lift", ("into", 0), ("at", 0)],
    "add_group": [("word", "over"), ("through", False), ("into", 0), ("at", 0)],
    "take": ["number"],
    "shift": ["number", "into", "at"],
    "strength": ["number", "m"],
    "turn": ["number", "word"],
    "touch": ["number", "x", "y", "colour", "thickness"],
    "mask": ["number", "x", "y", "m"],
    "move": ["number", "stretch", "across", "down"],
    "stroke": ["number", "corners", "colour", "thickness", "tip", ("every", 1), ("carry", 0)],
    "told": [],
    "order": [("into", 0)],
    "layer": ["number"],
    "cell": ["number", "x", "y"],
    "mask_at": ["number", "x", "y"],
    "plan_at": ["x", "y"],
    "rule_at": ["x", "y"],
    "show": ["x", "y", ("ground", None)],
    "stand": [],
    "back": ["number"],
    "let_go": ["number"],
    "stands": [],
    "tiles": [],
}


class InterfaceTest(unittest.TestCase):
    def arguments(self, deed):
        found = []
        for argument in inspect.signature(deed).parameters.values():
            plain = argument.default is inspect.Parameter.empty
            found.append(argument.name if plain else (argument.name, argument.default))
        return found

    def test_names_arguments_and_defaults(self):
        hall = Hall(wide=2, high=3)
        self.assertEqual(self.arguments(Hall), ["wide", "high"])
        for name, wanted in ARGUMENTS.items():
            with self.subTest(name=name):
                self.assertEqual(self.arguments(getattr(hall, name)), wanted)

    def test_deeds_that_tell_nothing(self):
        hall = Hall(2, 2)
        paint, group = hall.add_paint(), hall.add_group()
        stand = hall.stand()
        for name, things in (
            ("shift", (paint, group, 0)), ("strength", (paint, 3)), ("turn", (group, "atop")),
            ("touch", (paint, 0, 0, 1, 2)), ("mask", (group, 0, 0, 5)), ("move", (paint, (0, 0, 1, 1), 1, 1)),
            ("take", (paint,)), ("back", (stand,)), ("let_go", (stand,)),
        ):
            self.assertIs(getattr(hall, name)(*things), None, name)

    def test_kinds_of_what_is_told(self):
        hall = Hall(2, 2)
        paint = hall.add_paint("screen")
        adjust = hall.add_adjust(8, 8)
        group = hall.add_group("atop", True)
        for number in (paint, adjust, group, hall.stand(), hall.stroke(paint, [(0, 0)], 1, 2, Tip(DOT), 2)):
            self.assertIs(type(number), int)
        self.assertIs(type(hall.order()), list)
        self.assertIs(type(hall.stands()), list)
        self.assertIs(type(hall.tiles()), dict)
        self.assertIs(type(hall.plan_at(0, 0)), tuple)
        self.assertEqual(hall.layer(paint), ("paint", 0, 16, "screen"))
        self.assertEqual(hall.layer(adjust), ("adjust", 0, 16, 8, 8))
        self.assertEqual(hall.layer(group), ("group", 0, 16, "atop", True))
        self.assertIs(hall.layer(group)[4], True)
        self.assertIs(hall.layer(hall.add_group())[4], False)
        for told in (hall.layer(paint), hall.layer(adjust), hall.layer(group)):
            self.assertIs(type(told), tuple)
        check_told(self, hall.cell(paint, 0, 0), (Fraction(1, 16), Fraction(1, 8)))
        self.assertIs(type(hall.mask_at(paint, 0, 0)), int)
        self.assertIs(type(hall.told()), list)
        hall.touch(paint, 0, 0, 5, 8)
        self.assertEqual([type(tile) for tile in hall.told()], [tuple])


class PictureTest(unittest.TestCase):
    def test_each_size(self):
        for wide, high in itertools.product(range(1, 13), repeat=2):
            hall = Hall(wide, high)
            paint = hall.add_paint()
            for x, y in ((0, 0), (wide - 1, 0), (0, high - 1), (wide - 1, high - 1)):
                hall.touch(paint, x, y, 3, 5)
                self.assertEqual(hall.cell(paint, x, y), shade(3, 5))
            for x, y in ((-1, 0), (0, -1), (wide, 0), (0, high), (wide, high)):
                check_refused(self, NoPlace, hall.touch, paint, x, y, 3, 5)

    def test_other_sizes(self):
        for side in (0, -1, 13, 14, 144, -12, FORTY, -FORTY, True, False, None, "3", (3,)):
            for other in (1, 7, 12, side):
                check_refused(self, NoPlace, Hall, side, other)
                check_refused(self, NoPlace, Hall, other, side)

    def test_wide_is_across_and_high_is_down(self):
        hall = Hall(5, 2)
        paint = hall.add_paint()
        hall.touch(paint, 4, 1, 1, 1)
        self.assertEqual(hall.told(), [(0, 1)])
        check_refused(self, NoPlace, hall.touch, paint, 1, 4, 1, 1)

    def test_a_new_hall(self):
        for wide, high in ((1, 1), (4, 5), (12, 12)):
            hall = Hall(wide, high)
            self.assertEqual((hall.order(), hall.told(), hall.tiles(), hall.stands()), ([], [], {}, []))
            for y in range(high):
                for x in range(wide):
                    self.assertEqual((hall.plan_at(x, y), hall.rule_at(x, y)), ((), IDENTITY))
                    self.assertEqual(hall.show(x, y), CLEAR)
                    self.assertEqual(hall.show(x, y, shade(3, 7)), shade(3, 7))


class NumbersTest(unittest.TestCase):
    def test_from_one_on(self):
        hall = Hall(1, 1)
        self.assertEqual([hall.add_paint(), hall.add_adjust(1, 2), hall.add_group(), hall.add_paint()], [1, 2, 3, 4])

    def test_never_given_again(self):
        both = Both(self, 2, 1)
        both.do("add_paint")
        group = both.do("add_group")
        both.do("add_paint", "over", group)
        stand = both.do("stand")
        both.do("take", group)
        self.assertEqual(both.do("add_paint"), 4)
        both.do("take", 4)
        self.assertEqual(both.do("add_group"), 5)
        both.do("back", stand)
        self.assertEqual(both.do("add_adjust", 3, 4), 6)
        both.do("back", stand)
        both.do("let_go", stand)
        self.assertEqual(both.do("add_paint"), 7)

    def test_a_refused_layer_takes_no_number(self):
        both = Both(self, 1, 1)
        both.refuse("NoManner", "add_paint", "Over")
        both.refuse("NoGain", "add_adjust", 9, 9)
        both.refuse("NoLayer", "add_group", "over", False, 1)
        both.refuse("NoPlace", "add_paint", "over", 0, 1)
        self.assertEqual(both.do("add_paint"), 1)

    def test_each_hall_has_its_own(self):
        one, other = Hall(1, 1), Hall(1, 1)
        self.assertEqual([one.add_paint(), one.add_paint(), other.add_paint(), one.add_paint()], [1, 2, 1, 3])


class AddTest(unittest.TestCase):
    def test_by_the_defaults(self):
        hall = Hall(1, 1)
        paint, adjust, group = hall.add_paint(), hall.add_adjust(5, 6), hall.add_group()
        self.assertEqual(hall.order(), [group, adjust, paint])
        self.assertEqual(hall.layer(paint), ("paint", 0, 16, "over"))
        self.assertEqual(hall.layer(adjust), ("adjust", 0, 16, 5, 6))
        self.assertEqual(hall.layer(group), ("group", 0, 16, "over", False))
        self.assertEqual(hall.order(group), [])

    def test_by_name(self):
        hall = Hall(1, 1)
        group = hall.add_group(through=True)
        low = hall.add_paint(into=group)
        high = hall.add_adjust(lift=3, gain=2, at=1, into=group)
        top = hall.add_paint(at=1, word="times")
        self.assertEqual((hall.order(), hall.order(group)), ([group, top], [low, high]))
        self.assertEqual(hall.layer(high), ("adjust", group, 16, 2, 3))
        self.assertEqual(hall.layer(top), ("paint", 0, 16, "times"))

    def test_at_each_place_of_the_top_row_and_of_groups(self):
        kinds = (("add_paint", ("atop",)), ("add_adjust", (3, 4)), ("add_group", ("under", True)))
        for name, things in kinds:
            for many in range(5):
                for at in range(many + 1):
                    both = Both(self, 1, 1)
                    group = both.do("add_group")
                    for place in range(many):
                        both.do("add_paint", "over", group, place)
                        both.do("add_paint", "over", 0, place)
                    for into in (0, group):
                        ahead = both.hall.order(into)
                        number = both.do(name, *things, into, at)
                        self.assertEqual(both.hall.order(into), ahead[:at] + [number] + ahead[at:])
                        self.assertEqual(both.hall.layer(number)[1], into)

    def test_each_word(self):
        hall = Hall(1, 1)
        for word in WORDS:
            self.assertEqual(hall.layer(hall.add_paint(word))[3], word)
            self.assertEqual(hall.layer(hall.add_group(word, True))[3], word)

    def test_each_gain_and_lift(self):
        for gain in range(17):
            for lift in range(17 - gain):
                hall = Hall(1, 1)
                self.assertEqual(hall.layer(hall.add_adjust(gain, lift)), ("adjust", 0, 16, gain, lift))
                self.assertEqual(hall.rule_at(0, 0), adjusted(gain, lift))

    def test_new_layers_are_clear_and_without_a_mask(self):
        hall = Hall(5, 5)
        paint, group = hall.add_paint(), hall.add_group()
        for y in range(5):
            for x in range(5):
                self.assertEqual((hall.cell(paint, x, y), hall.mask_at(paint, x, y)), (CLEAR, 16))
                self.assertEqual(hall.mask_at(group, x, y), 16)
                self.assertEqual(hall.rule_at(x, y), IDENTITY)
        self.assertEqual(hall.tiles(), {})


class TakeTest(unittest.TestCase):
    def halls(self):
        both = Both(self, 5, 2)
        low = both.do("add_paint")
        outer = both.do("add_group", "over", True, 0, 1)
        inner = both.do("add_group", "screen", False, outer)
        deep = both.do("add_group", "over", False, inner)
        leaves = [both.do("add_paint", "over", into) for into in (outer, inner, deep)]
        adjust = both.do("add_adjust", 8, 4, 0, 2)
        for number in [low] + leaves:
            both.do("touch", number, 4, 1, 5, 9)
            both.do("mask", number, 0, 0, 3)
        return both, low, outer, inner, deep, leaves, adjust

    def test_of_a_paint_layer_and_an_adjusting_one(self):
        both, low, outer, inner, deep, leaves, adjust = self.halls()
        both.do("take", adjust)
        self.assertEqual(both.hall.order(), [low, outer])
        both.do("take", low)
        self.assertEqual(both.hall.order(), [outer])
        for number in (low, adjust):
            both.refuse("NoLayer", "layer", number)

    def test_of_a_group_with_all_that_lies_in_it(self):
        both, low, outer, inner, deep, leaves, adjust = self.halls()
        both.do("take", inner)
        self.assertEqual((both.hall.order(outer), both.hall.order()), ([leaves[0]], [low, outer, adjust]))
        for number in (inner, deep, leaves[1], leaves[2]):
            for name, things in (
                ("layer", ()), ("order", ()), ("take", ()), ("mask_at", (0, 0)), ("cell", (0, 0)), ("strength", (3,)),
                ("turn", ("over",)), ("touch", (0, 0, 1, 1)), ("mask", (0, 0, 1)), ("shift", (0, 0)),
                ("move", ((0, 0, 1, 1), 1, 1)), ("stroke", ([(0, 0)], 1, 1, DOT)),
            ):
                both.refuse("NoLayer", name, number, *things)
            both.refuse("NoLayer", "add_paint", "over", number)
            both.refuse("NoLayer", "shift", low, number, 0)
        both.do("take", outer)
        self.assertEqual(both.hall.order(), [low, adjust])

    def test_of_all(self):
        both, *numbers = self.halls()
        for number in list(both.hall.order()):
            both.do("take", number)
        self.assertEqual((both.hall.order(), both.hall.tiles(), both.hall.rule_at(4, 1)), ([], {}, IDENTITY))


class ShiftTest(unittest.TestCase):
    def test_in_one_row_counted_without_it(self):
        for number, at in itertools.product(range(4), range(4)):
            both = Both(self, 1, 1)
            numbers = [both.do("add_paint", word, 0, place) for place, word in enumerate(WORDS[:4])]
            for place, one in enumerate(numbers):
                both.do("touch", one, 0, 0, 3 + place, 9 + 2 * place)
            others = numbers[:number] + numbers[number + 1:]
            both.do("shift", numbers[number], 0, at)
            self.assertEqual(both.hall.order(), others[:at] + [numbers[number]] + others[at:])
            both.refuse("NoPlace", "shift", numbers[number], 0, 4)

    def test_between_rows(self):
        both = Both(self, 2, 2)
        low = both.do("add_paint")
        one = both.do("add_group", "over", False, 0, 1)
        other = both.do("add_group", "times", True, 0, 2)
        paint = both.do("add_paint", "screen", one)
        for number in (low, paint):
            both.do("touch", number, 1, 1, 5, 11)
        both.do("mask", other, 1, 1, 9)
        for into, at in ((other, 0), (0, 0), (0, 2), (one, 0), (0, 3), (other, 0), (one, 0)):
            both.do("shift", paint, into, at)
            self.assertEqual(both.hall.layer(paint)[1], into)
            self.assertEqual(both.hall.order(into)[at], paint)
        both.do("shift", one, other, 0)
        self.assertEqual((both.hall.order(), both.hall.order(other), both.hall.order(one)), ([low, other], [one], [paint]))
        both.do("shift", low, one, 1)
        both.do("shift", one, 0, 1)
        self.assertEqual((both.hall.order(), both.hall.order(other), both.hall.order(one)), ([other, one], [], [paint, low]))

    def test_out_of_a_group_into_one_that_lies_beside(self):
        both = Both(self, 1, 1)
        outer = both.do("add_group", "over", False)
        inner = both.do("add_group", "atop", False, outer)
        paint = both.do("add_paint", "under", inner)
        both.do("touch", paint, 0, 0, 4, 8)
        both.do("shift", paint, outer, 0)
        both.do("shift", paint, outer, 1)
        both.do("shift", paint, 0, 0)
        both.do("shift", paint, inner, 0)

    def test_both_rows_changed_but_the_whole_is_the_same(self):
        """The rule ahead and behind is the same, though each of the two rows alone has another one."""
        both = Both(self, 1, 1)
        one = both.do("add_group", "over", True)
        other = both.do("add_group", "over", True, 0, 1)
        paint = both.do("add_paint", "over", one)
        both.do("touch", paint, 0, 0, 5, 9)
        rule = both.hall.rule_at(0, 0)
        both.do("shift", paint, other, 0)
        self.assertEqual((both.hall.rule_at(0, 0), both.hall.told()), (rule, []))


class ValuesTest(unittest.TestCase):
    def test_strength(self):
        both = Both(self, 2, 1)
        numbers = [both.do("add_paint"), both.do("add_adjust", 4, 6), both.do("add_group", "over", True)]
        inner = both.do("add_paint", "under", numbers[2])
        for number in (numbers[0], inner):
            both.do("touch", number, 0, 0, 7, 13)
        for m in list(range(17)) + [0, 0, 16]:
            for number in numbers + [inner]:
                both.do("strength", number, m)
                self.assertEqual(both.hall.layer(number)[2], m)

    def test_turn(self):
        both = Both(self, 1, 1)
        low = both.do("add_paint")
        group = both.do("add_group", "over", False, 0, 1)
        inner = both.do("add_paint", "over", group)
        both.do("touch", low, 0, 0, 3, 8)
        both.do("touch", inner, 0, 0, 7, 9)
        for word in WORDS + WORDS[::2]:
            for number in (low, group, inner):
                both.do("turn", number, word)
                self.assertEqual(both.hall.layer(number)[3], word)

    def test_turn_of_a_group_let_through(self):
        both = Both(self, 1, 1)
        group = both.do("add_group", "over", True)
        both.do("touch", both.do("add_paint", "over", group), 0, 0, 7, 9)
        rule = both.hall.rule_at(0, 0)
        for word in WORDS:
            both.do("turn", group, word)
            self.assertEqual((both.hall.rule_at(0, 0), both.hall.told()), (rule, []))

    def test_touch(self):
        both = Both(self, 6, 5)
        paint = both.do("add_paint")
        for number, (x, y) in enumerate(both.plain.every_cell()):
            both.do("touch", paint, x, y, number % 13, 13)
            self.assertEqual(both.hall.cell(paint, x, y), shade(number % 13, 13))
        for x, y in ((0, 0), (5, 4), (4, 3)):
            for colour, thickness in ((0, 0), (16, 16), (0, 16), (5, 5), (5, 5)):
                both.do("touch", paint, x, y, colour, thickness)
                self.assertEqual(both.hall.cell(paint, x, y), shade(colour, thickness))

    def test_mask(self):
        both = Both(self, 5, 3)
        paint, adjust, group = both.do("add_paint"), both.do("add_adjust", 3, 7), both.do("add_group")
        both.do("touch", paint, 4, 2, 9, 15)
        for m in (0, 16, 16, 7, 0, 3):
            for number in (paint, adjust, group):
                both.do("mask", number, 4, 2, m)
                self.assertEqual(both.hall.mask_at(number, 4, 2), m)
                self.assertEqual(both.hall.mask_at(number, 3, 2), 16)

    def test_strength_and_mask_together(self):
        hall = Hall(1, 1)
        paint = hall.add_paint()
        hall.touch(paint, 0, 0, 8, 16)
        hall.strength(paint, 4)
        hall.mask(paint, 0, 0, 6)
        self.assertEqual(hall.plan_at(0, 0), (("paint", "over", (3, 32), shade(8, 16)),))
        self.assertEqual(hall.show(0, 0), ((3, 64), (3, 32)))

    def test_each_strength_and_mask(self):
        hall = Hall(1, 1)
        adjust = hall.add_adjust(3, 5)
        for m, veil in itertools.product(range(17), repeat=2):
            hall.strength(adjust, m)
            hall.mask(adjust, 0, 0, veil)
            share = pairs([Fraction(m * veil, 256)])[0]
            self.assertEqual(hall.plan_at(0, 0), (("adjust", 3, 5, share),))

    def test_each_cell_has_its_own(self):
        hall = Hall(12, 12)
        one, other = hall.add_paint(), hall.add_paint()
        for y in range(12):
            for x in range(12):
                hall.touch(one, x, y, x, 16)
                hall.mask(one, x, y, y)
                hall.touch(other, x, y, y, 15)
        for y in range(12):
            for x in range(12):
                self.assertEqual(hall.cell(one, x, y), shade(x, 16))
                self.assertEqual(hall.mask_at(one, x, y), y)
                self.assertEqual((hall.cell(other, x, y), hall.mask_at(other, x, y)), (shade(y, 15), 16))


class ShownTest(unittest.TestCase):
    def test_by_hand(self):
        hall = Hall(1, 1)
        low, high = hall.add_paint(), hall.add_paint("screen", 0, 1)
        hall.touch(low, 0, 0, 4, 8)
        hall.touch(high, 0, 0, 8, 16)
        self.assertEqual(hall.show(0, 0, shade(16, 16)), ((7, 8), (1, 1)))
        self.assertEqual(hall.show(0, 0), ((5, 8), (1, 1)))
        hall.strength(high, 8)
        self.assertEqual(hall.show(0, 0), ((7, 16), (3, 4)))
        self.assertEqual(hall.rule_at(0, 0), ((3, 8), (0, 1), (7, 16), (1, 4), (3, 4)))

    def test_the_first_of_the_row_is_the_lowest(self):
        hall = Hall(1, 1)
        high = hall.add_paint()
        low = hall.add_paint()
        hall.touch(high, 0, 0, 0, 16)
        hall.touch(low, 0, 0, 16, 16)
        self.assertEqual(hall.order(), [low, high])
        self.assertEqual([plan[3] for plan in hall.plan_at(0, 0)], [shade(16, 16), shade(0, 16)])
        self.assertEqual(hall.show(0, 0), shade(0, 16))
        hall.shift(low, 0, 1)
        self.assertEqual(hall.show(0, 0), shade(16, 16))

    def test_groups_in_groups(self):
        hall = Hall(2, 1)
        outer = hall.add_group("over", True)
        inner = hall.add_group("under", False, outer)
        paint = hall.add_paint("times", inner)
        adjust = hall.add_adjust(8, 4, outer, 1)
        hall.touch(paint, 1, 0, 2, 8)
        hall.mask(inner, 1, 0, 8)
        hall.strength(outer, 4)
        plans = (
            ("group", "over", True, (1, 4), (
                ("group", "under", False, (1, 2), (("paint", "times", (1, 1), shade(2, 8)),)),
                ("adjust", 8, 4, (1, 1)))),
        )
        self.assertEqual(hall.plan_at(1, 0), plans)
        self.assertEqual(hall.rule_at(1, 0), rule_of_all(plans))
        self.assertEqual(hall.show(1, 0), ((3, 128), (1, 16)))
        self.assertEqual(hall.plan_at(0, 0)[0][4][0], ("group", "under", False, (1, 1), (("paint", "times", (1, 1), CLEAR),)))
        self.assertEqual(hall.order(outer), [inner, adjust])

    def test_an_empty_group_shows_nothing(self):
        both = Both(self, 1, 1)
        for word, through in itertools.product(WORDS, (True, False)):
            group = both.do("add_group", word, through)
            self.assertEqual(both.hall.plan_at(0, 0)[0], ("group", word, through, (1, 1), ()))
            both.do("mask", group, 0, 0, 5)
            self.assertEqual((both.hall.rule_at(0, 0), both.hall.told()), (IDENTITY, []))

    def test_with_no_ground_it_is_the_clear_one(self):
        hall = Hall(1, 1)
        hall.touch(hall.add_paint("atop"), 0, 0, 16, 16)
        self.assertEqual((hall.show(0, 0), hall.show(0, 0, None), hall.show(0, 0, CLEAR)), (CLEAR, CLEAR, CLEAR))
        self.assertEqual(hall.show(0, 0, shade(0, 8)), shade(8, 8))
        self.assertEqual(hall.show(x=0, y=0, ground=shade(0, 8)), shade(8, 8))

    def test_grounds_of_all_kinds(self):
        both = Both(self, 3, 1)
        for place, word in enumerate(WORDS):
            paint = both.do("add_paint", word, 0, place)
            both.do("touch", paint, 1, 0, 3 + place, 7 + 2 * place)
        chance = random.Random(30)
        drawn = [some_shade(chance) for number in range(20)]
        long = pairs((Fraction(10 ** 39, FORTY), Fraction(7 * 10 ** 39, FORTY)))
        check_all(self, both.hall, both.plain, ALL_GROUNDS + tuple(drawn) + (long,))

    def test_asked_twice_tells_the_same(self):
        hall = Hall(2, 1)
        paint = hall.add_paint("times")
        hall.touch(paint, 0, 0, 3, 5)
        for name, things in (
            ("show", (0, 0)), ("show", (0, 0, shade(1, 2))), ("rule_at", (0, 0)), ("plan_at", (0, 0)), ("order", ()),
            ("layer", (paint,)), ("cell", (paint, 0, 0)), ("mask_at", (paint, 0, 0)), ("told", ()), ("tiles", ()),
        ):
            self.assertEqual(getattr(hall, name)(*things), getattr(hall, name)(*things))

    def test_questions_about_cells_outside_of_the_picture_are_not_refused(self):
        """Nothing was put there, so that each layer has what it had at first."""
        hall = Hall(5, 2)
        paint, adjust = hall.add_paint(), hall.add_adjust(5, 9)
        hall.touch(paint, 1, 0, 3, 4)
        hall.mask(adjust, 1, 0, 3)
        for x, y in ((5, 0), (0, 2), (1, 4), (-1, 0), (0, -1), (99, 99)):
            self.assertEqual((hall.cell(paint, x, y), hall.mask_at(adjust, x, y)), (CLEAR, 16))
            self.assertEqual(hall.plan_at(x, y), (("adjust", 5, 9, (1, 1)), ("paint", "over", (1, 1), CLEAR)))
            self.assertEqual(hall.rule_at(x, y), adjusted(5, 9))
            self.assertEqual(hall.show(x, y, shade(0, 16)), shade(9, 16))

    def test_the_rule_is_one_layers_rule_behind_the_other(self):
        hall = Hall(1, 1)
        low, high = hall.add_paint("under"), hall.add_adjust(5, 9, 0, 1)
        hall.touch(low, 0, 0, 6, 14)
        wanted = behind(manner_of("under").rule(shade(6, 14)), adjusted(5, 9))
        self.assertEqual(hall.rule_at(0, 0), wanted)
        self.assertEqual(hall.show(0, 0, shade(1, 3)), laid(wanted, shade(1, 3)))
        hall.shift(high, 0, 0)
        self.assertEqual(hall.rule_at(0, 0), behind(adjusted(5, 9), manner_of("under").rule(shade(6, 14))))


class StrokeTest(unittest.TestCase):
    def colours(self, hall, number, wide, high):
        return [[hall.cell(number, x, y) for x in range(wide)] for y in range(high)]

    def test_by_hand(self):
        hall = Hall(3, 2)
        paint = hall.add_paint()
        self.assertEqual(hall.stroke(paint, [(0, 0), (2, 0)], 4, 16, Tip(CROSS), 2), 1)
        whole, half = shade(4, 16), shade(2, 8)
        self.assertEqual(self.colours(hall, paint, 3, 2), [[whole, half, whole], [half, CLEAR, half]])
        self.assertEqual(hall.stroke(paint, [(1, 0)], 12, 12, Tip(CROSS), 2, 1), 0)
        self.assertEqual(self.colours(hall, paint, 3, 2), [[whole, half, whole], [half, CLEAR, half]])
        self.assertEqual(hall.stroke(paint, [(1, 0)], 12, 12, Tip(CROSS), 1), 0)
        self.assertEqual(self.colours(hall, paint, 3, 2), [[whole, shade(12, 12), whole], [half, shade(6, 6), half]])

    def test_the_thicker_shade_stays(self):
        hall = Hall(1, 1)
        paint = hall.add_paint()
        for colour, thickness, wanted in (
            (3, 5, shade(3, 5)), (0, 5, shade(3, 5)), (4, 4, shade(3, 5)), (0, 6, shade(0, 6)), (6, 6, shade(0, 6)),
        ):
            hall.stroke(paint, [(0, 0)], colour, thickness, Tip(DOT))
            self.assertEqual(hall.cell(paint, 0, 0), wanted)

    def test_every_and_carry_by_their_defaults(self):
        for things, wanted, dabbed in (
            ((), 0, [0, 1, 2, 3, 4]), ((2,), 1, [0, 2, 4]), ((3, 1), 0, [2]), ((4, 3), 0, [1]), ((9, 4), 0, []),
        ):
            hall = Hall(5, 1)
            paint = hall.add_paint()
            self.assertEqual(hall.stroke(paint, [(0, 0), (4, 0)], 1, 2, Tip(DOT), *things), wanted)
            self.assertEqual([x for x in range(5) if hall.cell(paint, x, 0) != CLEAR], dabbed)
        hall = Hall(5, 1)
        hall.add_paint()
        self.assertEqual(hall.stroke(1, [(0, 0), (4, 0)], 1, 2, Tip(DOT), carry=1, every=3), 0)

    def test_tips_of_one_three_and_five_rows(self):
        for tip in (DOT, [[0]], [[5]], CROSS, SQUARE):
            both = Both(self, 7, 6)
            paint = both.do("add_paint", "screen")
            for things in (([(3, 3)], 7, 16), ([(0, 0), (6, 5), (6, 0)], 5, 9), ([(-1, -1), (-1, 7)], 0, 13)):
                both.do("stroke", paint, *things, tip)
                both.do("stroke", paint, *things, tip, 3, 2)

    def test_corners_beyond_the_edges(self):
        for corners in (
            [(-3, -3), (9, 9)], [(20, 20)], [(-50, 2), (50, 2)], [(2, 150), (2, -1)], [(5, 0), (0, 5), (-5, 0), (0, -5)],
        ):
            both = Both(self, 5, 4)
            paint = both.do("add_paint")
            both.do("stroke", paint, corners, 5, 15, CROSS, 2, 1)
            both.do("stroke", paint, corners, 5, 15, SQUARE)

    def test_a_way_cut_in_two(self):
        ways = [[(0, 0), (5, 3), (5, 0)], [(-2, 1), (7, 2)], [(3, 3), (3, 3), (0, 0), (4, 1)]]
        for corners, tip, every in itertools.product(ways, (DOT, CROSS), (1, 2, 3, 5)):
            whole = Hall(6, 5)
            paint = whole.add_paint()
            behind_whole = whole.stroke(paint, corners, 3, 14, Tip(tip), every)
            cells = [(x, y) for x, y in self.way_of(corners)]
            for cut in range(1, len(cells)):
                parts = Hall(6, 5)
                parts.add_paint()
                carry = parts.stroke(paint, cells[:cut], 3, 14, Tip(tip), every)
                self.assertEqual(parts.stroke(paint, cells[cut:], 3, 14, Tip(tip), every, carry), behind_whole)
                self.assertEqual(self.colours(parts, paint, 6, 5), self.colours(whole, paint, 6, 5))

    def way_of(self, corners):
        hall = Hall(1, 1)
        hall.add_paint()
        seen = []

        class Watching(Tip):
            def spread(self, cell):
                seen.append(cell)
                return Tip.spread(self, cell)

        hall.stroke(1, corners, 1, 1, Watching(DOT))
        return seen

    def test_the_dabs_are_those_of_the_way(self):
        self.assertEqual(self.way_of([(0, 0), (3, 1), (3, -1)]), [(0, 0), (1, 1), (2, 1), (3, 1), (3, 0), (3, -1)])

    def test_one_behind_the_other(self):
        """A thin dab ahead of a thick one on the same cell, and behind it."""
        hall = Hall(3, 1)
        paint = hall.add_paint()
        hall.stroke(paint, [(0, 0), (2, 0)], 8, 16, Tip([[0, 0, 0], [2, 9, 5], [0, 0, 0]]))
        self.assertEqual(self.colours(hall, paint, 3, 1), [[((9, 32), (9, 16))] * 3])

    def test_what_is_handed_in_stays(self):
        hall = Hall(4, 4)
        hall.add_paint()
        corners, rows = [(0, 0), (3, 3)], [[1, 2, 3], [4, 5, 6], [7, 8, 9]]
        tip = Tip(rows)
        hall.stroke(1, corners, 3, 4, tip)
        self.assertEqual((corners, rows), ([(0, 0), (3, 3)], [[1, 2, 3], [4, 5, 6], [7, 8, 9]]))
        ahead = hall.cell(1, 2, 2)
        corners.clear()
        rows[1][1] = 16
        self.assertEqual(hall.cell(1, 2, 2), ahead)


class MoveTest(unittest.TestCase):
    def painted(self, wide, high):
        both = Both(self, wide, high)
        paint = both.do("add_paint")
        for number, (x, y) in enumerate(both.plain.every_cell()):
            if number % 3:
                both.hall.touch(paint, x, y, number % 14, 14)
                both.plain.deed("touch", paint, x, y, number % 14, 14)
        return both, paint

    def test_by_hand(self):
        hall = Hall(3, 1)
        paint = hall.add_paint()
        hall.touch(paint, 0, 0, 1, 1)
        hall.touch(paint, 1, 0, 2, 2)
        hall.touch(paint, 2, 0, 3, 3)
        hall.move(paint, (0, 0, 2, 1), 1, 0)
        self.assertEqual([hall.cell(paint, x, 0) for x in range(3)], [CLEAR, shade(1, 1), shade(2, 2)])
        hall.move(paint, (0, 0, 1, 1), 2, 0)
        self.assertEqual([hall.cell(paint, x, 0) for x in range(3)], [CLEAR, shade(1, 1), CLEAR])

    def test_stretches_inside_partly_and_wholly_beyond(self):
        for stretch in (
            (0, 0, 1, 1), (1, 1, 2, 2), (0, 0, 6, 5), (-2, -2, 4, 4), (4, 3, 9, 9), (-9, -9, 30, 30), (6, 0, 3, 3),
            (0, -5, 6, 5), (99, 99, 1, 1), (-FORTY, -FORTY, 2 * FORTY, 2 * FORTY),
        ):
            for across, down in ((0, 0), (1, 0), (0, -1), (-2, 3), (5, 4), (-6, 0), (0, 99), (FORTY, -FORTY)):
                both, paint = self.painted(6, 5)
                both.do("move", paint, stretch, across, down)

    def test_the_mask_and_other_layers_stay(self):
        both, paint = self.painted(4, 2)
        other = both.do("add_paint")
        both.do("touch", other, 0, 0, 7, 7)
        both.do("mask", paint, 1, 1, 4)
        both.do("move", paint, (0, 0, 2, 2), 2, 0)
        self.assertEqual((both.hall.cell(other, 0, 0), both.hall.mask_at(paint, 1, 1)), (shade(7, 7), 4))

    def test_of_a_clear_layer(self):
        both = Both(self, 5, 5)
        paint = both.do("add_paint")
        both.do("move", paint, (0, 0, 5, 5), 1, 1)
        self.assertEqual((both.hall.tiles(), both.hall.told()), ({}, []))


class NewThingsTest(unittest.TestCase):
    def test_what_is_told_may_be_changed(self):
        hall = Hall(5, 1)
        paint, group = hall.add_paint(), hall.add_group()
        inner = hall.add_paint("over", group)
        hall.touch(paint, 4, 0, 3, 4)
        hall.stand()
        for name, things in (("order", ()), ("order", (group,)), ("told", ()), ("tiles", ()), ("stands", ())):
            told = getattr(hall, name)(*things)
            self.assertNotEqual(len(told), 0, name)
            told.clear()
            self.assertNotEqual(getattr(hall, name)(*things), told, name)
        self.assertEqual((hall.order(), hall.order(group)), ([group, paint], [inner]))
        self.assertEqual((hall.told(), hall.tiles(), hall.stands()), ([(0, 1)], {1: 2}, [1]))

    def test_two_halls_share_nothing(self):
        one, other = Hall(4, 4), Hall(4, 4)
        one.add_paint()
        one.touch(1, 0, 0, 3, 4)
        one.stand()
        self.assertEqual((other.order(), other.tiles(), other.stands(), other.told()), ([], {}, [], []))
        other.add_group()
        other.add_paint("over", 1)
        other.touch(2, 0, 0, 16, 16)
        other.mask(1, 0, 0, 3)
        self.assertEqual((one.cell(1, 0, 0), one.tiles(), one.order()), (shade(3, 4), {1: 2}, [1]))
        self.assertEqual(other.tiles(), {1: 1, 2: 1})


if __name__ == "__main__":
    unittest.main()
