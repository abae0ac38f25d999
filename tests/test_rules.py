"""Points 7 to 10: rules, measured by sums over Python's own Fraction."""

import itertools
import unittest
from fractions import Fraction

from glazehall.rules import IDENTITY, behind, grounds, laid, mixed, parted, stays
from helpers import FORTY, GROUNDS, TINY, check_fractions, check_told, is_shade, lay, mix, pair, pairs
from helpers import rules, shares, values

HALF = Fraction(1, 2)


def off(rule, place, much):
    return tuple(number + (much if number_place == place else 0) for number_place, number in enumerate(rule))


def rules_off_by_little():
    """Each rule of a few with each of its numbers a little lower, and a little higher."""
    few = [(1, 0, 0, 1, 0), (0, 0, 1, 0, 1), (0, 1, 0, 1, 0), (1, -1, 1, 0, 1), (0, 0, 0, 0, 0), (HALF, 0, 0, HALF, HALF)]
    muches = (TINY, -TINY, Fraction(1, 256), Fraction(-1, 256))
    return [off(rule, place, much) for rule in few for place in range(5) for much in muches]


class LaidTest(unittest.TestCase):
    def test_by_hand(self):
        rule = ((1, 2), (1, 3), (1, 5), (1, 7), (1, 11))
        self.assertEqual(laid(rule, ((1, 1), (1, 1))), ((31, 30), (18, 77)))
        self.assertEqual(laid(rule, ((0, 1), (0, 1))), ((1, 5), (1, 11)))
        self.assertEqual(laid(rule, ((0, 1), (1, 1))), ((8, 15), (18, 77)))
        self.assertEqual(laid(rule, ((2, 1), (3, 1))), ((11, 5), (40, 77)))

    def test_each_number_has_its_place(self):
        value = ((3, 1), (5, 1))
        wanted = [((3, 1), (0, 1)), ((5, 1), (0, 1)), ((1, 1), (0, 1)), ((0, 1), (5, 1)), ((0, 1), (1, 1))]
        for place in range(5):
            rule = pairs([1 if number == place else 0 for number in range(5)])
            self.assertEqual(laid(rule, value), wanted[place])

    def test_by_the_sums(self):
        for rule in rules() + rules_off_by_little():
            for value in values():
                check_told(self, laid(pairs(rule), pairs(value)), lay(rule, value))

    def test_forty_figures_and_negative_numbers(self):
        rule = pairs((-FORTY, FORTY, -1, FORTY, -FORTY))
        self.assertEqual(laid(rule, pairs((FORTY, 1))), pairs((-FORTY * FORTY + FORTY - 1, 0)))
        self.assertEqual(laid(rule, pairs((-TINY, TINY))), pairs((1, 1 - FORTY)))


class IdentityTest(unittest.TestCase):
    def test_its_numbers(self):
        self.assertEqual(IDENTITY, ((1, 1), (0, 1), (0, 1), (1, 1), (0, 1)))
        check_fractions(self, IDENTITY, 5)

    def test_it_tells_each_value_itself(self):
        for value in values():
            check_told(self, laid(IDENTITY, pairs(value)), value)


class BehindTest(unittest.TestCase):
    def test_by_hand(self):
        first = pairs((2, 3, 5, 7, 11))
        second = pairs((13, 17, 19, 23, 29))
        self.assertEqual(behind(first, second), pairs((26, 158, 271, 161, 282)))
        self.assertEqual(behind(second, first), pairs((26, 103, 130, 161, 214)))

    def test_it_tells_what_the_second_tells_of_what_the_first_tells(self):
        for first, second in itertools.product(rules(), repeat=2):
            told = behind(pairs(first), pairs(second))
            check_fractions(self, told, 5)
            for value in values():
                self.assertEqual(laid(told, pairs(value)), pairs(lay(second, lay(first, value))))

    def test_in_any_brackets(self):
        for one, two, three in itertools.product([pairs(rule) for rule in rules()], repeat=3):
            self.assertEqual(behind(behind(one, two), three), behind(one, behind(two, three)))

    def test_five_in_any_brackets(self):
        row = [pairs(rule) for rule in rules()[3:8]]
        ways = {behind(behind(behind(behind(row[0], row[1]), row[2]), row[3]), row[4])}
        ways.add(behind(row[0], behind(row[1], behind(row[2], behind(row[3], row[4])))))
        ways.add(behind(behind(row[0], row[1]), behind(behind(row[2], row[3]), row[4])))
        ways.add(behind(behind(row[0], behind(row[1], row[2])), behind(row[3], row[4])))
        self.assertEqual(len(ways), 1)

    def test_the_identity_ahead_and_behind(self):
        for rule in rules():
            self.assertEqual(behind(IDENTITY, pairs(rule)), pairs(rule))
            self.assertEqual(behind(pairs(rule), IDENTITY), pairs(rule))
        self.assertEqual(behind(IDENTITY, IDENTITY), IDENTITY)

    def test_as_many_figures_as_needed(self):
        rule = rules()[-1]
        told = pairs(rule)
        value = (Fraction(1, 3), Fraction(1, 2))
        wanted = lay(rule, value)
        for step in range(12):
            told = behind(told, pairs(rule))
            wanted = lay(rule, wanted)
        check_told(self, laid(told, pairs(value)), wanted)


class MixedTest(unittest.TestCase):
    def test_by_hand(self):
        self.assertEqual(mixed(pairs((2, 3, 5, 7, 11)), (1, 4)), pairs((Fraction(5, 4), Fraction(3, 4), Fraction(5, 4),
                                                                        Fraction(5, 2), Fraction(11, 4))))

    def test_it_tells_the_two_added_by_their_shares(self):
        for rule in rules():
            for share in shares():
                told = mixed(pairs(rule), pair(share))
                check_fractions(self, told, 5)
                for value in values():
                    self.assertEqual(laid(told, pairs(value)), pairs(mix(value, lay(rule, value), share)))

    def test_by_nought_it_is_the_identity(self):
        for rule in rules():
            self.assertEqual(mixed(pairs(rule), (0, 1)), IDENTITY)

    def test_by_one_it_is_the_rule(self):
        for rule in rules():
            self.assertEqual(mixed(pairs(rule), (1, 1)), pairs(rule))

    def test_the_identity_stays_itself(self):
        for share in shares():
            self.assertEqual(mixed(IDENTITY, pair(share)), IDENTITY)

    def test_a_rule_that_stays_goes_on_staying(self):
        for rule in rules():
            for share in shares():
                if stays(pairs(rule)) and 0 <= share <= 1:
                    self.assertIs(stays(mixed(pairs(rule), pair(share))), True)


class GroundsTest(unittest.TestCase):
    def test_the_three_in_their_order(self):
        wanted = [((0, 1), (0, 1)), ((0, 1), (1, 1)), ((1, 1), (1, 1))]
        self.assertIs(type(grounds()), list)
        self.assertEqual(grounds(), wanted)

    def test_a_new_list_each_time(self):
        told = grounds()
        self.assertIsNot(told, grounds())
        told.reverse()
        told.pop()
        told.append("no ground")
        self.assertEqual(grounds(), [((0, 1), (0, 1)), ((0, 1), (1, 1)), ((1, 1), (1, 1))])

    def test_a_list_changed_behind_changes_no_answer(self):
        grounds().clear()
        told = grounds()
        told[0] = ((9, 1), (9, 1))
        self.assertEqual(parted(IDENTITY, pairs((1, 0, 1, 1, 0))), ((0, 1), (0, 1)))
        self.assertIs(stays(IDENTITY), True)
        self.assertIs(stays(pairs((2, 0, 0, 1, 0))), False)


class PartedTest(unittest.TestCase):
    def check(self, one, other):
        wanted = None
        for ground in reversed(GROUNDS):
            if lay(one, ground) != lay(other, ground):
                wanted = pairs(ground)
        self.assertEqual(parted(pairs(one), pairs(other)), wanted)
        self.assertEqual(parted(pairs(other), pairs(one)), wanted)
        self.assertIs(wanted is None, one == other)

    def test_each_of_the_three(self):
        self.assertEqual(parted(IDENTITY, pairs((1, 0, 1, 1, 0))), ((0, 1), (0, 1)))
        self.assertEqual(parted(IDENTITY, pairs((1, 0, 0, 1, 1))), ((0, 1), (0, 1)))
        self.assertEqual(parted(IDENTITY, pairs((1, 1, 0, 1, 0))), ((0, 1), (1, 1)))
        self.assertEqual(parted(IDENTITY, pairs((1, 0, 0, 2, 0))), ((0, 1), (1, 1)))
        self.assertEqual(parted(IDENTITY, pairs((2, 0, 0, 1, 0))), ((1, 1), (1, 1)))

    def test_like_rules_are_not_parted(self):
        for rule in rules() + rules_off_by_little():
            self.assertIsNone(parted(pairs(rule), pairs(rule)))

    def test_all_pairs(self):
        for one, other in itertools.product(rules(), repeat=2):
            self.check(one, other)

    def test_rules_off_by_little(self):
        for rule in rules():
            for place in range(5):
                for much in (TINY, -TINY, HALF, FORTY):
                    self.check(rule, off(rule, place, much))

    def test_unlike_rules_that_tell_the_same_of_some_grounds(self):
        for rule in rules():
            for much in (TINY, -TINY, HALF, -3):
                # The same of the first two grounds; of the last two, by colour or by thickness; of the first and the last.
                self.check(rule, off(rule, 0, much))
                self.check(rule, off(off(rule, 1, -much), 2, much))
                self.check(rule, off(off(rule, 3, -much), 4, much))
                self.check(rule, off(off(rule, 0, much), 1, -much))
                # The same of the last one alone, of the middle one alone, of the first one alone.
                self.check(rule, off(off(rule, 0, -much), 2, much))
                self.check(rule, off(off(off(rule, 0, much), 1, -much), 2, much))
                self.check(rule, off(rule, 1, much))

    def test_the_ground_told_parts_them_and_no_earlier_one_does(self):
        one = pairs((1, 0, 0, 1, 0))
        other = pairs((1, -1, 1, 1, 0))
        self.assertEqual(laid(one, ((0, 1), (1, 1))), laid(other, ((0, 1), (1, 1))))
        self.assertEqual(laid(one, ((1, 1), (1, 1))), laid(other, ((1, 1), (1, 1))))
        self.assertEqual(parted(one, other), ((0, 1), (0, 1)))
        other = pairs((2, -1, 0, 1, 0))
        self.assertEqual(laid(one, ((0, 1), (0, 1))), laid(other, ((0, 1), (0, 1))))
        self.assertEqual(laid(one, ((1, 1), (1, 1))), laid(other, ((1, 1), (1, 1))))
        self.assertEqual(parted(one, other), ((0, 1), (1, 1)))


class StaysTest(unittest.TestCase):
    def check(self, rule):
        wanted = all(is_shade(lay(rule, ground)) for ground in GROUNDS)
        self.assertIs(stays(pairs(rule)), wanted)
        return wanted

    def test_rules_that_stay(self):
        for rule in (
            (1, 0, 0, 1, 0), (0, 0, 0, 0, 0), (0, 0, 1, 0, 1), (0, 1, 0, 1, 0), (1, -1, 1, 0, 1), (0, 0, 0, 1, 0),
            (HALF, 0, HALF, HALF, HALF), (HALF, HALF, 0, 1, 0), (-1, 1, 0, 1, 0), (0, 0, 0, -1, 1), (1, 0, 0, 0, 1),
            (1 - TINY, 0, TINY, 1 - TINY, TINY), (TINY, 1 - TINY, 0, 1, 0),
        ):
            with self.subTest(rule=rule):
                self.assertIs(self.check(rule), True)

    def test_rules_that_fail_at_one_ground_alone(self):
        # At the first one: a colour above the thickness, below nought, a thickness above one, below nought.
        for rule in ((0, -TINY, TINY, 1, 0), (1, TINY, -TINY, 1, 0), (0, 0, 0, -TINY, 1 + TINY), (0, 0, 0, 1 + TINY, -TINY)):
            with self.subTest(rule=rule):
                self.assertIs(self.check(rule), False)
                self.assertEqual([is_shade(lay(rule, ground)) for ground in GROUNDS], [False, True, True])
        for rule in ((TINY, -TINY, 0, 1, 0), (-TINY, 1 + TINY, 0, 1, 0)):
            with self.subTest(rule=rule):
                self.assertIs(self.check(rule), False)
                self.assertEqual([is_shade(lay(rule, ground)) for ground in GROUNDS], [True, False, True])
        for rule in ((1 + TINY, 0, 0, 1, 0), (-TINY, 0, 0, 1, 0)):
            with self.subTest(rule=rule):
                self.assertIs(self.check(rule), False)
                self.assertEqual([is_shade(lay(rule, ground)) for ground in GROUNDS], [True, True, False])

    def test_rules_off_by_little(self):
        told = [self.check(rule) for rule in rules_off_by_little()]
        self.assertIn(True, told)
        self.assertIn(False, told)

    def test_all_of_the_pool(self):
        for rule in rules():
            self.check(rule)

    def test_a_rule_stays_just_where_it_tells_a_shade_of_each_shade(self):
        shades = [(Fraction(c, 6), Fraction(t, 6)) for t in range(7) for c in range(t + 1)]
        for numbers in itertools.product((-1, -HALF, 0, HALF, 1), repeat=5):
            self.assertIs(stays(pairs(numbers)), all(is_shade(lay(numbers, shade)) for shade in shades))


if __name__ == "__main__":
    unittest.main()
