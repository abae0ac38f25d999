"""Points 21 and 22: a keeper of rules, their product, and how many products it makes."""

import random
import unittest
from fractions import Fraction
from unittest import mock

from glazehall.errors import NoLayer
from glazehall.keeps import Keeper
from glazehall.rules import IDENTITY, behind
from helpers import FORTY, check_fractions, check_refused, check_told, lay, pairs, rule_by, rules

NO_NUMBERS = (True, False, None, "", "0", 0.0, 1.0, (), (0,), [], [0], {}, object())


def unlike(many):
    """So many rules over Fractions, of which no two tell the same in the other order."""
    return [(Fraction(k + 2, k + 1), k, Fraction(-1, k + 2), Fraction(k + 1, k + 3), k + 1) for k in range(many)]


def told(found):
    return [pairs(rule) for rule in found]


def keeper_of(many):
    return Keeper(told(unlike(many)))


def some_rule(chance):
    if chance.randrange(8) == 0:
        return chance.choice(rules())
    return tuple(Fraction(chance.randrange(-4, 5), chance.randrange(1, 5)) for part in range(5))


def plain_whole(found):
    """The product of rules over Fractions: each one laid, behind the other, on the grounds."""
    def tell(value):
        for rule in found:
            value = lay(rule, value)
        return value
    return rule_by(tell)


def lowest_height(many):
    return next(h for h in range(99) if 2 ** h >= many)


def shown(keeper):
    return ([keeper.rule_at(k) for k in range(keeper.many())], keeper.made())


def refused_deeds(keeper):
    """Each deed and question that takes a number, but put_in."""
    return (keeper.rule_at, keeper.take_out, lambda k: keeper.put_at(k, IDENTITY))


def cost(keeper):
    """How many products the next whole makes."""
    before = keeper.made()
    keeper.whole()
    return keeper.made() - before


class KeepsCase(unittest.TestCase):
    def check_rules(self, keeper, wanted):
        self.assertIs(type(keeper.many()), int)
        self.assertEqual(keeper.many(), len(wanted))
        for k, rule in enumerate(wanted):
            check_told(self, keeper.rule_at(k), rule)

    def check_keeper(self, keeper, wanted):
        self.check_rules(keeper, wanted)
        check_told(self, keeper.whole(), plain_whole(wanted))
        self.check_rules(keeper, wanted)


class WholeTest(KeepsCase):
    def test_of_none(self):
        keeper = Keeper([])
        self.assertEqual(keeper.many(), 0)
        self.assertEqual(keeper.whole(), IDENTITY)
        self.assertEqual(keeper.whole(), IDENTITY)

    def test_of_one(self):
        for rule in rules():
            keeper = Keeper([pairs(rule)])
            self.assertEqual(keeper.many(), 1)
            self.assertEqual(keeper.rule_at(0), pairs(rule))
            self.assertEqual(keeper.whole(), pairs(rule))

    def test_of_two_the_first_laid_first(self):
        for one in rules():
            for other in rules():
                self.assertEqual(Keeper(told([one, other])).whole(), behind(pairs(one), pairs(other)))
        self.assertEqual(Keeper(told([(2, 0, 0, 1, 0), (1, 0, 3, 1, 0)])).whole(), pairs((2, 0, 3, 1, 0)))
        self.assertEqual(Keeper(told([(1, 0, 3, 1, 0), (2, 0, 0, 1, 0)])).whole(), pairs((2, 0, 6, 1, 0)))

    def test_of_none_to_forty(self):
        for many in range(41):
            self.check_keeper(keeper_of(many), unlike(many))

    def test_of_forty_like_rules(self):
        rule = (Fraction(1, 2), 1, 1, Fraction(1, 2), 1)
        self.check_keeper(Keeper(told([rule] * 40)), [rule] * 40)

    def test_of_forty_rules_of_forty_figures(self):
        wanted = [rules()[-1], rules()[-2], rules()[-3], (Fraction(FORTY, 7), 1, Fraction(-2, FORTY), 3, -FORTY)] * 10
        keeper = Keeper(told(wanted))
        self.check_keeper(keeper, wanted)
        keeper.put_at(21, pairs(unlike(5)[4]))
        wanted[21] = unlike(5)[4]
        self.check_keeper(keeper, wanted)

    def test_of_some_more_than_forty(self):
        for many in (41, 47, 64, 65):
            self.check_keeper(keeper_of(many), unlike(many))
            self.assertEqual(keeper_of(many).height(), lowest_height(many))

    def test_what_was_told_may_be_handed_in_again(self):
        first = keeper_of(40).whole()
        again = Keeper([first, first, pairs(unlike(3)[2])])
        check_fractions(self, again.whole(), 5)
        self.assertEqual(again.whole(), behind(behind(first, first), pairs(unlike(3)[2])))

    def test_each_keeper_has_its_own(self):
        one = keeper_of(3)
        other = keeper_of(3)
        one.whole()
        one.put_at(0, IDENTITY)
        one.take_out(2)
        self.check_rules(other, unlike(3))
        self.assertEqual(other.made(), 0)
        self.check_keeper(other, unlike(3))

    def test_of_a_tuple(self):
        keeper = Keeper(tuple(told(unlike(3))))
        keeper.put_at(0, pairs(unlike(4)[3]))
        keeper.put_in(1, pairs(unlike(4)[0]))
        keeper.take_out(2)
        self.check_keeper(keeper, [unlike(4)[3], unlike(4)[0], unlike(4)[2]])


class DeedsTest(KeepsCase):
    def check_deed(self, many, deed, wanted):
        """What a deed does ahead of the first whole, and behind it."""
        for asked in (False, True):
            keeper = keeper_of(many)
            if asked:
                keeper.whole()
            self.assertIsNone(deed(keeper))
            self.check_keeper(keeper, wanted)

    def test_put_at_each_number(self):
        new = rules()[4]
        for many in list(range(1, 10)) + [40]:
            for k in range(many):
                wanted = unlike(many)[:k] + [new] + unlike(many)[k + 1:]
                self.check_deed(many, lambda keeper: keeper.put_at(k, pairs(new)), wanted)

    def test_put_in_ahead_of_each_number_and_behind_all(self):
        new = rules()[4]
        for many in list(range(10)) + [39]:
            for k in range(many + 1):
                wanted = unlike(many)[:k] + [new] + unlike(many)[k:]
                self.check_deed(many, lambda keeper: keeper.put_in(k, pairs(new)), wanted)

    def test_take_out_each_number(self):
        for many in list(range(1, 10)) + [40]:
            for k in range(many):
                wanted = unlike(many)[:k] + unlike(many)[k + 1:]
                self.check_deed(many, lambda keeper: keeper.take_out(k), wanted)

    def test_from_none_to_forty_and_back(self):
        keeper = Keeper([])
        for many, rule in enumerate(unlike(40)):
            keeper.put_in(many, pairs(rule))
            self.check_keeper(keeper, unlike(many + 1))
        for many in reversed(range(40)):
            keeper.take_out(many)
            self.check_keeper(keeper, unlike(many))
        self.assertEqual(keeper.whole(), IDENTITY)

    def test_put_in_and_taken_out_again(self):
        keeper = keeper_of(6)
        before = keeper.whole()
        keeper.put_in(2, pairs(rules()[4]))
        keeper.take_out(2)
        self.assertEqual(keeper.whole(), before)
        keeper.take_out(0)
        keeper.put_in(0, pairs(unlike(6)[0]))
        self.assertEqual(keeper.whole(), before)

    def test_put_at_twice_the_later_one_holds(self):
        for asked in (False, True):
            keeper = keeper_of(5)
            keeper.whole()
            keeper.put_at(3, pairs(rules()[4]))
            if asked:
                keeper.whole()
            keeper.put_at(3, pairs(rules()[8]))
            self.check_keeper(keeper, unlike(3) + [rules()[8], unlike(5)[4]])
            keeper.put_at(3, pairs(unlike(5)[3]))
            self.check_keeper(keeper, unlike(5))

    def test_the_rule_that_stands_there_already(self):
        keeper = keeper_of(5)
        keeper.whole()
        keeper.put_at(2, pairs(unlike(5)[2]))
        self.check_keeper(keeper, unlike(5))


class HandedInTest(KeepsCase):
    def test_the_list_handed_in_is_not_changed(self):
        found = told(unlike(5))
        keeper = Keeper(found)
        keeper.put_at(0, IDENTITY)
        keeper.put_in(2, IDENTITY)
        keeper.take_out(4)
        keeper.whole()
        self.assertEqual(found, told(unlike(5)))

    def test_the_list_handed_in_changed_behind(self):
        found = told(unlike(5))
        keeper = Keeper(found)
        found[0] = IDENTITY
        found.append(IDENTITY)
        self.check_keeper(keeper, unlike(5))
        found.clear()
        self.check_keeper(keeper, unlike(5))
        self.assertEqual(keeper.made(), 4)


class RefusedTest(KeepsCase):
    def check_refusals(self, deeds_of, many, numbers):
        """That each number is refused by each deed, ahead of the first whole and behind it, and changes nothing."""
        for asked in (False, True):
            keeper = keeper_of(many)
            if asked:
                keeper.whole()
            before = shown(keeper)
            for k in numbers:
                for deed in deeds_of(keeper):
                    with self.subTest(many=many, k=k):
                        check_refused(self, NoLayer, deed, k)
                        self.assertEqual(shown(keeper), before)
            self.assertEqual(cost(keeper), 0 if asked else max(many - 1, 0))
            self.check_keeper(keeper, unlike(many))

    def test_numbers_that_are_not_there(self):
        for many in (0, 1, 2, 3, 5, 8, 40):
            numbers = (-1, -2, -many - 1, many, many + 1, many + 7, FORTY, -FORTY) + NO_NUMBERS
            self.check_refusals(refused_deeds, many, numbers)

    def test_places_that_are_not_there(self):
        for many in (0, 1, 2, 3, 5, 8, 39):
            numbers = (-1, -2, -many - 1, many + 1, many + 2, many + 7, FORTY, -FORTY) + NO_NUMBERS
            self.check_refusals(lambda keeper: [lambda k: keeper.put_in(k, IDENTITY)], many, numbers)

    def test_a_number_that_was_there(self):
        keeper = keeper_of(3)
        keeper.take_out(0)
        for deed in refused_deeds(keeper):
            check_refused(self, NoLayer, deed, 2)
        keeper.put_in(2, pairs(unlike(3)[0]))
        self.assertEqual(keeper.rule_at(2), pairs(unlike(3)[0]))
        check_refused(self, NoLayer, keeper.rule_at, 3)

    def test_a_refused_deed_between_put_ats_costs_nothing(self):
        keeper = keeper_of(40)
        keeper.whole()
        keeper.put_at(7, IDENTITY)
        check_refused(self, NoLayer, keeper.put_in, 41, IDENTITY)
        check_refused(self, NoLayer, keeper.take_out, 40)
        check_refused(self, NoLayer, keeper.put_at, -1, IDENTITY)
        self.assertLessEqual(cost(keeper), 6)


class HeightTest(KeepsCase):
    def test_of_none_to_forty(self):
        wanted = [0, 0, 1, 2, 2, 3, 3, 3, 3] + [4] * 8 + [5] * 16 + [6] * 8
        self.assertEqual([keeper_of(many).height() for many in range(41)], wanted)
        self.assertEqual(wanted, [lowest_height(many) for many in range(41)])
        self.assertEqual({type(keeper_of(many).height()) for many in range(41)}, {int})

    def test_it_goes_with_the_rules(self):
        keeper = Keeper([])
        for many in range(1, 41):
            keeper.put_in(0, IDENTITY)
            self.assertEqual(keeper.height(), lowest_height(many))
        keeper.put_at(7, IDENTITY)
        self.assertEqual(keeper.height(), 6)
        for many in reversed(range(40)):
            keeper.take_out(0)
            self.assertEqual(keeper.height(), lowest_height(many))


class MadeTest(KeepsCase):
    def test_none_at_first(self):
        for many in (0, 1, 2, 40):
            self.assertEqual(keeper_of(many).made(), 0)
            self.assertIs(type(keeper_of(many).made()), int)

    def test_the_first_whole_makes_one_fewer_than_there_are_rules(self):
        for many in range(41):
            self.assertEqual(cost(keeper_of(many)), max(many - 1, 0))

    def test_the_first_whole_behind_other_deeds(self):
        for many in range(2, 40):
            keeper = keeper_of(many)
            keeper.put_at(0, IDENTITY)
            keeper.put_at(many - 1, IDENTITY)
            self.assertEqual(cost(keeper), many - 1)
            keeper = keeper_of(many)
            keeper.put_in(many // 2, IDENTITY)
            self.assertEqual(cost(keeper), many)
            keeper = keeper_of(many)
            keeper.take_out(many // 2)
            self.assertEqual(cost(keeper), many - 2)

    def test_none_where_nothing_was_done(self):
        for many in range(41):
            keeper = keeper_of(many)
            first = keeper.whole()
            for step in range(3):
                self.assertEqual(cost(keeper), 0)
                self.assertEqual(keeper.whole(), first)
            if many > 0:
                keeper.put_at(many // 2, IDENTITY)
                keeper.whole()
                self.assertEqual(cost(keeper), 0)
            keeper.put_in(many, IDENTITY)
            keeper.whole()
            self.assertEqual(cost(keeper), 0)

    def test_at_most_the_height_for_one_put_at(self):
        for many in range(1, 41):
            keeper = keeper_of(many)
            keeper.whole()
            for k in range(many):
                keeper.put_at(k, pairs(rules()[k % 9]))
                self.assertLessEqual(cost(keeper), min(lowest_height(many), many - 1))

    def test_at_most_the_height_for_each_put_at(self):
        for many in (1, 2, 3, 5, 16, 17, 31, 40):
            for ats in ((0, many - 1), (0, 0), (many // 2, many // 2), (0, many // 3, many - 1), tuple(range(many))):
                keeper = keeper_of(many)
                keeper.whole()
                for k in ats:
                    keeper.put_at(k, pairs(rules()[k % 9]))
                self.assertLessEqual(cost(keeper), min(lowest_height(many) * len(ats), many - 1))

    def test_at_most_one_fewer_than_there_are_rules(self):
        for many in (2, 3, 7, 8, 9, 39):
            for deeds in range(1, 4):
                keeper = keeper_of(many)
                keeper.whole()
                for k in range(deeds):
                    keeper.put_in(k, IDENTITY)
                self.assertLessEqual(cost(keeper), many + deeds - 1)
                for k in range(deeds):
                    keeper.put_at(k, pairs(rules()[4]))
                    keeper.take_out(k)
                self.assertLessEqual(cost(keeper), many - 1)

    def test_none_again_for_an_empty_keeper(self):
        keeper = keeper_of(1)
        keeper.whole()
        keeper.take_out(0)
        self.assertEqual(cost(keeper), 0)
        keeper.put_in(0, IDENTITY)
        self.assertEqual(cost(keeper), 0)
        self.assertEqual(keeper.made(), 0)

    def test_nothing_but_whole_makes_any(self):
        for asked in (False, True):
            keeper = keeper_of(9)
            if asked:
                keeper.whole()
            before = keeper.made()
            for deed in (
                lambda: keeper.put_at(3, IDENTITY), lambda: keeper.put_in(4, IDENTITY), lambda: keeper.take_out(0),
                lambda: keeper.rule_at(2), keeper.many, keeper.height, keeper.made,
            ):
                deed()
                self.assertEqual(keeper.made(), before)

    def test_each_product_is_counted_and_no_other(self):
        with mock.patch("glazehall.keeps.behind", wraps=behind) as watched:
            keeper = keeper_of(40)
            self.assertEqual(watched.call_count, 0)
            for deed in (
                lambda: None, lambda: keeper.put_at(3, IDENTITY), lambda: keeper.put_in(4, IDENTITY),
                lambda: keeper.take_out(0), lambda: keeper.rule_at(2), lambda: keeper.put_at(39, IDENTITY),
            ):
                deed()
                keeper.whole()
                self.assertEqual(keeper.made(), watched.call_count)


class RowsOfDeedsTest(KeepsCase):
    def step(self, chance, keeper, plain):
        """One drawn deed, done to both; tells what it was."""
        many = len(plain)
        kinds = ["put_in"] * (many < 40) + ["put_at", "put_at", "put_at", "take_out"] * (many > 0)
        kind = chance.choice(kinds)
        rule = some_rule(chance)
        k = chance.randrange(many + (kind == "put_in"))
        if kind == "put_in":
            keeper.put_in(k, pairs(rule))
            plain.insert(k, rule)
        elif kind == "put_at":
            keeper.put_at(k, pairs(rule))
            plain[k] = rule
        else:
            keeper.take_out(k)
            plain.pop(k)
        return kind

    def check_cost(self, keeper, plain, deeds, is_first):
        made = cost(keeper)
        most = max(len(plain) - 1, 0)
        if is_first:
            self.assertEqual(made, most)
        self.assertLessEqual(made, most)
        if not is_first and set(deeds) <= {"put_at"}:
            self.assertLessEqual(made, lowest_height(len(plain)) * len(deeds))

    def test_long_rows(self):
        for seed in range(12):
            chance = random.Random(seed)
            plain = [some_rule(chance) for k in range(chance.choice((0, 1, 2, 7, 20, 40)))]
            keeper = Keeper(told(plain))
            deeds = []
            is_first = True
            for number in range(120):
                before = keeper.made()
                deeds.append(self.step(chance, keeper, plain))
                self.assertEqual(keeper.made(), before)
                self.assertEqual(shown(keeper)[0], told(plain))
                if chance.randrange(3) == 0:
                    self.check_cost(keeper, plain, deeds, is_first)
                    check_told(self, keeper.whole(), plain_whole(plain))
                    deeds = []
                    is_first = False

    def test_long_rows_of_put_ats(self):
        for many in (1, 2, 3, 13, 32, 33, 40):
            chance = random.Random(many)
            plain = unlike(many)
            keeper = Keeper(told(plain))
            keeper.whole()
            for number in range(40):
                ats = [chance.randrange(many) for step in range(chance.randrange(1, 4))]
                for k in ats:
                    plain[k] = some_rule(chance)
                    keeper.put_at(k, pairs(plain[k]))
                self.check_cost(keeper, plain, ["put_at"] * len(ats), False)
                check_told(self, keeper.whole(), plain_whole(plain))


if __name__ == "__main__":
    unittest.main()
