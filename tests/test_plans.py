"""Points 18 to 20: plans, their rules, and rows of them laid plainly."""

import copy
import random
import unittest
from fractions import Fraction

from glazehall.errors import NoGain, NoManner
from glazehall.manners import Over, adjusted, manner_of, weakened
from glazehall.plans import rule_of, rule_of_all, value_of
from glazehall.rules import IDENTITY, behind, grounds, laid, mixed, stays
from glazehall.shades import CLEAR, shade
from helpers import FORTY, TINY, WORDS, check_refused, check_told, manner_rule, pair, pairs, plain_row, plain_rule
from helpers import some_plan, sources, values

HALF = Fraction(1, 2)
SHARES = (0, 1, HALF, Fraction(1, 3), Fraction(255, 256), TINY, 1 - TINY)
PAINT = ("paint", "over", (1, 1), shade(4, 8))
LIGHT = ("paint", "screen", (1, 2), shade(6, 10))
SHIFT = ("adjust", 12, 3, (1, 1))


def some_rows():
    chance = random.Random(20)
    return [[some_plan(chance, 3) for number in range(chance.randrange(1, 6))] for row in range(60)]


class PlansCase(unittest.TestCase):
    def check_row(self, plans):
        check_told(self, rule_of_all(plans), plain_rule(plans))
        if len(plans) == 1:
            self.assertEqual(rule_of(plans[0]), rule_of_all(plans))
        for value in values():
            told = value_of(plans, pairs(value))
            check_told(self, told, plain_row(plans, value))
            self.assertEqual(told, laid(rule_of_all(plans), pairs(value)))

    def check_plan(self, plan):
        self.check_row([plan])


class PaintTest(PlansCase):
    def test_by_hand(self):
        source = shade(4, 8)
        self.assertEqual(rule_of(("paint", "over", (1, 1), source)), ((1, 2), (0, 1), (1, 4), (1, 2), (1, 2)))
        self.assertEqual(rule_of(("paint", "over", (1, 2), source)), ((3, 4), (0, 1), (1, 8), (3, 4), (1, 4)))
        self.assertEqual(rule_of(("paint", "under", (1, 2), source)), ((1, 1), (-1, 8), (1, 8), (3, 4), (1, 4)))
        self.assertEqual(rule_of(("paint", "screen", (1, 2), source)), ((7, 8), (0, 1), (1, 8), (3, 4), (1, 4)))
        self.assertEqual(rule_of(("paint", "times", (1, 2), source)), ((7, 8), (-1, 8), (1, 8), (3, 4), (1, 4)))
        self.assertEqual(rule_of(("paint", "atop", (1, 2), source)), ((3, 4), (1, 8), (0, 1), (1, 1), (0, 1)))

    def test_each_manner_and_source(self):
        for word in WORDS:
            for source in sources():
                for m in (0, 1, Fraction(1, 3)):
                    plan = ("paint", word, pair(m), pairs(source))
                    check_told(self, rule_of(plan), manner_rule(word, m * source[0], m * source[1]))

    def test_each_manner_by_each_share(self):
        for word in WORDS:
            for m in SHARES:
                self.check_plan(("paint", word, pair(m), shade(5, 9)))
                self.check_plan(("paint", word, pair(m), pairs((TINY, 1 - TINY))))

    def test_by_nought_it_does_nothing(self):
        for word in WORDS:
            self.assertEqual(rule_of(("paint", word, (0, 1), shade(5, 9))), IDENTITY)

    def test_a_word_of_no_manner_is_refused(self):
        for word in ("Over", "", None, 1, ["over"]):
            plan = ("paint", word, (1, 1), shade(5, 9))
            check_refused(self, NoManner, rule_of, plan)
            check_refused(self, NoManner, rule_of_all, [PAINT, plan])
            check_refused(self, NoManner, value_of, [PAINT, plan], CLEAR)


class AdjustTest(PlansCase):
    def test_by_hand(self):
        self.assertEqual(rule_of(("adjust", 4, 8, (1, 1))), ((1, 4), (1, 2), (0, 1), (1, 1), (0, 1)))
        self.assertEqual(rule_of(("adjust", 4, 8, (1, 3))), ((3, 4), (1, 6), (0, 1), (1, 1), (0, 1)))
        self.assertEqual(rule_of(("adjust", 4, 8, (0, 1))), IDENTITY)

    def test_each_share(self):
        for gain, lift in ((0, 0), (16, 0), (0, 16), (8, 8), (3, 5), (15, 1)):
            for m in SHARES:
                self.check_plan(("adjust", gain, lift, pair(m)))
                self.assertEqual(rule_of(("adjust", gain, lift, pair(m))), mixed(adjusted(gain, lift), pair(m)))

    def test_what_is_no_gain_and_lift_is_refused(self):
        for gain, lift in ((9, 8), (17, 0), (-1, 1), (True, 3), ((1, 16), 0), (0, None)):
            plan = ("adjust", gain, lift, (1, 1))
            check_refused(self, NoGain, rule_of, plan)
            check_refused(self, NoGain, rule_of_all, (PAINT, plan))
            check_refused(self, NoGain, value_of, (PAINT, plan), CLEAR)


class ThroughTest(PlansCase):
    def test_it_is_its_plans_mixed(self):
        for m in SHARES:
            plan = ("group", "over", True, pair(m), (PAINT, LIGHT, SHIFT))
            self.assertEqual(rule_of(plan), mixed(rule_of_all([PAINT, LIGHT, SHIFT]), pair(m)))
            self.check_plan(plan)

    def test_by_one_it_is_its_layers(self):
        plan = ("group", "times", True, (1, 1), (PAINT, LIGHT, SHIFT))
        self.assertEqual(rule_of(plan), rule_of_all((PAINT, LIGHT, SHIFT)))
        self.assertEqual(rule_of_all([SHIFT, plan, PAINT]), rule_of_all([SHIFT, PAINT, LIGHT, SHIFT, PAINT]))

    def test_by_nought_it_does_nothing(self):
        self.assertEqual(rule_of(("group", "over", True, (0, 1), (PAINT, SHIFT))), IDENTITY)

    def test_whatever_its_word(self):
        for m in ((1, 1), (2, 3)):
            told = [rule_of(("group", word, True, m, (PAINT, SHIFT))) for word in WORDS]
            self.assertEqual(told, [mixed(behind(rule_of(PAINT), rule_of(SHIFT)), m)] * 5)

    def test_mixing_the_whole_is_not_mixing_each(self):
        whole = ("group", "over", True, (1, 2), (PAINT, PAINT))
        each = ("paint", "over", (1, 2), shade(4, 8))
        self.assertEqual(value_of([whole], CLEAR), ((3, 16), (3, 8)))
        self.assertEqual(value_of([each, each], CLEAR), ((7, 32), (7, 16)))


class AloneTest(PlansCase):
    def test_its_plans_on_the_clear_shade_are_a_source(self):
        for word in WORDS:
            for m in SHARES:
                plan = ("group", word, False, pair(m), (PAINT, LIGHT, SHIFT))
                source = value_of([PAINT, LIGHT, SHIFT], CLEAR)
                self.assertEqual(rule_of(plan), manner_of(word).rule(weakened(source, pair(m))))
                self.check_plan(plan)

    def test_by_hand(self):
        # On the clear shade the paint tells (1/4, 1/2), and the adjusting plan of that (9/32, 1/2).
        plan = ("group", "over", False, (1, 2), (PAINT, SHIFT))
        self.assertEqual(rule_of(plan), ((3, 4), (0, 1), (9, 64), (3, 4), (1, 4)))

    def test_an_adjusting_plan_by_itself_does_nothing(self):
        for word in WORDS:
            self.assertEqual(rule_of(("group", word, False, (1, 1), (SHIFT,))), IDENTITY)
        self.assertEqual(rule_of(("group", "over", True, (1, 1), (SHIFT,))), adjusted(12, 3))

    def test_paint_over_by_itself_is_that_paint(self):
        for word in WORDS:
            self.assertEqual(rule_of(("group", word, False, (1, 1), (PAINT,))), rule_of(("paint", word) + PAINT[2:]))

    def test_atop_by_itself_shows_nothing(self):
        plan = ("group", "over", False, (1, 1), (("paint", "atop", (1, 1), shade(9, 16)),))
        self.assertEqual(rule_of(plan), IDENTITY)

    def test_by_nought_it_does_nothing(self):
        for word in WORDS:
            self.assertEqual(rule_of(("group", word, False, (0, 1), (PAINT, SHIFT))), IDENTITY)

    def test_a_word_of_no_manner_is_refused(self):
        plan = ("group", "beside", False, (1, 1), (PAINT,))
        check_refused(self, NoManner, rule_of, plan)
        check_refused(self, NoManner, value_of, [plan], CLEAR)


class GroupsTest(PlansCase):
    def test_groups_of_no_plans(self):
        for word in WORDS:
            for through in (True, False):
                for m in SHARES:
                    plan = ("group", word, through, pair(m), ())
                    self.assertEqual(rule_of(plan), IDENTITY)
                    self.check_plan(plan)

    def test_groups_in_groups(self):
        for outer in (True, False):
            for inner in (True, False):
                for word in WORDS:
                    for m in (0, 1, Fraction(2, 3)):
                        deepest = ("group", "screen", not inner, pair(HALF), (LIGHT, SHIFT, ("group", word, inner, pair(m), ())))
                        within = ("group", word, inner, pair(m), (PAINT, deepest, SHIFT))
                        self.check_plan(("group", "under", outer, pair(1 - HALF * m), (LIGHT, within, PAINT)))

    def test_a_group_let_through_in_one_laid_by_itself_meets_the_clear_shade(self):
        within = ("group", "over", True, (1, 1), (SHIFT, ("paint", "atop", (1, 1), shade(9, 16))))
        self.assertEqual(rule_of(("group", "over", False, (1, 1), (within,))), IDENTITY)
        self.assertEqual(rule_of(("group", "over", False, (1, 1), (PAINT, within))),
                         Over().rule(value_of([PAINT, within], CLEAR)))

    def test_many_rows(self):
        for plans in some_rows():
            self.check_row(plans)
            self.check_plan(("group", "over", True, (3, 7), tuple(plans)))
            self.check_plan(("group", "times", False, (3, 7), tuple(plans)))

    def test_every_rule_stays(self):
        for plans in some_rows():
            self.assertIs(stays(rule_of_all(plans)), True)
            for plan in plans:
                self.assertIs(stays(rule_of(plan)), True)


class RowTest(PlansCase):
    def test_of_none(self):
        for plans in ([], ()):
            self.assertEqual(rule_of_all(plans), IDENTITY)
            for value in values():
                self.assertEqual(value_of(plans, pairs(value)), pairs(value))

    def test_of_one(self):
        for plan in (PAINT, LIGHT, SHIFT):
            self.assertEqual(rule_of_all([plan]), rule_of(plan))
            self.assertEqual(rule_of_all((plan,)), rule_of(plan))

    def test_of_more_the_lowest_first(self):
        self.assertEqual(rule_of_all([PAINT, SHIFT]), behind(rule_of(PAINT), rule_of(SHIFT)))
        self.assertEqual(rule_of_all([SHIFT, PAINT]), behind(rule_of(SHIFT), rule_of(PAINT)))
        self.assertNotEqual(rule_of_all([PAINT, SHIFT]), rule_of_all([SHIFT, PAINT]))
        white = shade(16, 16)
        self.assertEqual(value_of([PAINT, SHIFT], white), ((3, 4), (1, 1)))
        self.assertEqual(value_of([SHIFT, PAINT], white), ((23, 32), (1, 1)))

    def test_twelve_plans(self):
        self.check_row([PAINT, LIGHT, SHIFT] * 4)

    def test_a_list_and_a_tuple_tell_the_same(self):
        for plans in some_rows():
            self.assertEqual(rule_of_all(tuple(plans)), rule_of_all(list(plans)))
            for ground in grounds():
                self.assertEqual(value_of(tuple(plans), ground), value_of(list(plans), ground))

    def test_a_row_may_be_cut_anywhere(self):
        plans = [PAINT, LIGHT, SHIFT, ("group", "atop", False, (1, 2), (PAINT,)), LIGHT]
        for cut in range(6):
            self.assertEqual(behind(rule_of_all(plans[:cut]), rule_of_all(plans[cut:])), rule_of_all(plans))
            for ground in grounds():
                self.assertEqual(value_of(plans[cut:], value_of(plans[:cut], ground)), value_of(plans, ground))

    def test_what_is_handed_in_is_not_changed(self):
        for plans in some_rows():
            before = copy.deepcopy(plans)
            rule_of_all(plans)
            value_of(plans, CLEAR)
            self.assertEqual(plans, before)

    def test_a_row_changed_behind_changes_nothing_told(self):
        plans = [PAINT, SHIFT]
        told = rule_of_all(plans)
        plans.clear()
        self.assertEqual(told, behind(rule_of(PAINT), rule_of(SHIFT)))
        self.assertEqual(rule_of_all(plans), IDENTITY)

    def test_values_of_forty_figures(self):
        value = (Fraction(-FORTY, 10 ** 39 + 7), Fraction(FORTY))
        check_told(self, value_of([PAINT, SHIFT, LIGHT], pairs(value)), plain_row([PAINT, SHIFT, LIGHT], value))


if __name__ == "__main__":
    unittest.main()
