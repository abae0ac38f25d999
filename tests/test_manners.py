"""Points 11 to 14: manners, weakened sources, adjusting rules."""

import itertools
import unittest
from fractions import Fraction

from glazehall import manners
from glazehall.errors import NoGain, NoManner
from glazehall.manners import WORDS, Atop, Manner, Over, Screen, Times, Under, adjusted, manner_of, weakened
from glazehall.rules import IDENTITY, laid, mixed, stays
from glazehall.shades import CLEAR, is_shade, shade
from helpers import FORTY, GROUNDS, TINY, check_fractions, check_refused, check_told, lay, manner_rule, pair, pairs
from helpers import sources
from helpers import WORDS as WRITTEN_WORDS

CLASSES = (Over, Under, Screen, Times, Atop)
ADDING = ("over", "under", "screen", "times")
HALF = Fraction(1, 2)


class LikeAll:
    """Something that is no text, but says of itself that it is like everything."""

    def __eq__(self, other):
        return True


NO_WORDS = (
    "", " ", "Over", "OVER", "over ", " over", "ove", "overr", "o", "over\n", "over\0", "\u043ever", "under_", "unde",
    "screens", "Screen", "time", "Times", "*", "a top", "on top", "top", "atop\t", "paint", "adjust", "group", "word",
    "over under", "None", "0", None, True, False, 0, 1, -1, FORTY, 1.5, b"over", (), ("over",), [], ["over"], {},
    {"over": "over"}, {"over"}, object(), LikeAll(), Over, Over(), WRITTEN_WORDS,
)
NO_SIXTEENTHS = (
    -1, 17, 18, -16, 256, FORTY, -FORTY, 10 ** 5000, True, False, None, "", "4", "16", 4.0, 0.0, (1, 16), (0, 1),
    (1, 1), (4, 1), [4], {4: 4}, Fraction(4), HALF, object(),
)
SHARES = (Fraction(1, 2), Fraction(1, 3), Fraction(255, 256), Fraction(1, 256), TINY, 1 - TINY)


class WordsTest(unittest.TestCase):
    def test_the_words_in_their_order(self):
        self.assertEqual(WORDS, ("over", "under", "screen", "times", "atop"))
        self.assertIs(type(WORDS), tuple)

    def test_each_class_has_its_word(self):
        for manner_class, word in zip(CLASSES, WRITTEN_WORDS):
            self.assertEqual(manner_class().word(), word)

    def test_the_classes_stand_under_manner_alone(self):
        self.assertIsInstance(Manner(), Manner)
        for one in CLASSES:
            self.assertTrue(issubclass(one, Manner))
            self.assertFalse(issubclass(Manner, one))
            for other in CLASSES:
                self.assertIs(issubclass(one, other), one is other)

    def test_manner_of_each_word(self):
        for manner_class, word in zip(CLASSES, WRITTEN_WORDS):
            manner = manner_of(word)
            self.assertIs(type(manner), manner_class)
            self.assertEqual(manner.word(), word)
            self.assertEqual(manner_of("".join(list(word))).word(), word)

    def test_anything_else_is_refused(self):
        for thing in NO_WORDS:
            with self.subTest(thing=thing):
                check_refused(self, NoManner, manner_of, thing)
        self.assertEqual(manner_of("over").word(), "over")

    def test_every_text_that_is_nearly_a_word_is_refused(self):
        for word in WRITTEN_WORDS:
            for place in range(len(word)):
                for near in (word[:place] + word[place + 1:], word[:place] + word[place].upper() + word[place + 1:],
                             word[:place] + word[place] + word[place:], word[:place] + " " + word[place:]):
                    check_refused(self, NoManner, manner_of, near)


class RuleTest(unittest.TestCase):
    def test_by_hand(self):
        source = shade(4, 8)
        self.assertEqual(Over().rule(source), ((1, 2), (0, 1), (1, 4), (1, 2), (1, 2)))
        self.assertEqual(Under().rule(source), ((1, 1), (-1, 4), (1, 4), (1, 2), (1, 2)))
        self.assertEqual(Screen().rule(source), ((3, 4), (0, 1), (1, 4), (1, 2), (1, 2)))
        self.assertEqual(Times().rule(source), ((3, 4), (-1, 4), (1, 4), (1, 2), (1, 2)))
        self.assertEqual(Atop().rule(source), ((1, 2), (1, 4), (0, 1), (1, 1), (0, 1)))

    def test_by_the_sums(self):
        for word in WRITTEN_WORDS:
            for source in sources():
                check_told(self, manner_of(word).rule(pairs(source)), manner_rule(word, *source))

    def test_each_stays(self):
        for word in WRITTEN_WORDS:
            for source in sources():
                self.assertIs(stays(manner_of(word).rule(pairs(source))), True)

    def test_what_a_source_of_full_thickness_shows(self):
        source = shade(5, 16)
        white = shade(16, 16)
        black = shade(0, 16)
        self.assertEqual([laid(Over().rule(source), ground) for ground in (CLEAR, black, white)], [source] * 3)
        self.assertEqual([laid(Under().rule(source), ground) for ground in (CLEAR, black, white)], [source, black, white])
        self.assertEqual([laid(Screen().rule(source), ground) for ground in (CLEAR, black, white)], [source, source, white])
        self.assertEqual([laid(Times().rule(source), ground) for ground in (CLEAR, black, white)], [source, black, source])
        self.assertEqual([laid(Atop().rule(source), ground) for ground in (CLEAR, black, white)], [CLEAR, source, source])

    def test_the_clear_source_changes_nothing(self):
        for word in WRITTEN_WORDS:
            self.assertEqual(manner_of(word).rule(CLEAR), IDENTITY)

    def test_one_manner_tells_the_same_again(self):
        manner = manner_of("times")
        told = manner.rule(shade(3, 5))
        manner.rule(shade(0, 16))
        manner.found(IDENTITY)
        self.assertEqual(manner.rule(shade(3, 5)), told)


class WeakenedTest(unittest.TestCase):
    def test_by_hand(self):
        self.assertEqual(weakened(shade(4, 8), (1, 3)), ((1, 12), (1, 6)))

    def test_by_the_sums(self):
        for source in sources():
            for m in SHARES:
                told = weakened(pairs(source), pair(m))
                check_told(self, told, (m * source[0], m * source[1]))
                self.assertIs(is_shade(told), True)

    def test_by_nought_and_one(self):
        for source in sources():
            self.assertEqual(weakened(pairs(source), (0, 1)), CLEAR)
            self.assertEqual(weakened(pairs(source), (1, 1)), pairs(source))

    def test_its_rule_is_that_of_the_source_mixed(self):
        for word in WRITTEN_WORDS:
            manner = manner_of(word)
            for source in sources():
                for m in SHARES + (0, 1):
                    told = manner.rule(weakened(pairs(source), pair(m)))
                    self.assertEqual(told, mixed(manner.rule(pairs(source)), pair(m)))


class FoundTest(unittest.TestCase):
    def test_the_source_of_a_manners_own_rule(self):
        for word in WRITTEN_WORDS:
            for source in sources():
                check_told(self, manner_of(word).found(pairs(manner_rule(word, *source))), source)

    def test_which_numbers_tell_the_source(self):
        rule = ((1, 3), (1, 5), (1, 7), (1, 4), (1, 2))
        for word in ADDING:
            self.assertEqual(manner_of(word).found(rule), ((1, 7), (1, 2)))
        self.assertEqual(Atop().found(rule), ((1, 5), (2, 3)))

    def test_whether_it_has_just_this_rule_is_not_told(self):
        other = Screen().rule(shade(4, 8))
        self.assertEqual(Over().found(other), shade(4, 8))
        self.assertNotEqual(Over().rule(shade(4, 8)), other)
        self.assertEqual(Over().found(IDENTITY), CLEAR)
        self.assertEqual(Over().found(adjusted(3, 5)), CLEAR)
        self.assertEqual(Atop().found(adjusted(3, 5)), pairs((Fraction(5, 16), Fraction(13, 16))))

    def test_all_rules_of_manners_by_every_manner(self):
        for source in sources():
            for word in WRITTEN_WORDS:
                rule = manner_rule(word, *source)
                for manner in ADDING:
                    check_told(self, manner_of(manner).found(pairs(rule)), (rule[2], rule[4]))
                one = (rule[1], 1 - rule[0])
                if 0 <= one[0] <= one[1] <= 1:
                    check_told(self, Atop().found(pairs(rule)), one)
                else:
                    self.assertIsNone(Atop().found(pairs(rule)))

    def test_none_where_atop_finds_no_shade(self):
        # Rules that stay, with a p below nought, or a g below nought, by little and by much.
        for rule in ((1, -TINY, TINY, 1 - TINY, TINY), (1, -1, 1, 0, 1), (-TINY, 1, 0, 1, 0), (-1, 1, 0, 1, 0)):
            with self.subTest(rule=rule):
                self.assertIs(stays(pairs(rule)), True)
                self.assertIsNone(Atop().found(pairs(rule)))
        self.assertIsNone(Atop().found(Under().rule(shade(1, 1))))
        self.assertIsNone(Atop().found(Times().rule(shade(16, 16))))

    def test_the_edges_of_what_atop_finds(self):
        self.assertEqual(Atop().found(pairs((1, 0, 0, 1, 0))), shade(0, 0))
        self.assertEqual(Atop().found(pairs((0, 0, 0, 1, 0))), shade(0, 16))
        self.assertEqual(Atop().found(pairs((0, 1, 0, 1, 0))), shade(16, 16))
        self.assertEqual(Atop().found(pairs((0, HALF, HALF, HALF, HALF))), shade(8, 16))

    def test_the_found_one_is_the_only_one(self):
        shades = [pairs((Fraction(s, 4), Fraction(u, 4))) for u in range(5) for s in range(u + 1)]
        for word, other in itertools.product(WRITTEN_WORDS, repeat=2):
            for source in shades:
                rule = manner_of(other).rule(source)
                found = manner_of(word).found(rule)
                for one in shades:
                    if manner_of(word).rule(one) == rule:
                        self.assertEqual(found, one)

    def test_none_where_the_others_find_no_shade(self):
        # No rule that stays has such an a and b; the three bounds hold none the less.
        for a, b in ((-TINY, 0), (TINY, 0), (HALF + TINY, HALF), (0, 1 + TINY), (1, 1 + TINY), (-1, -1)):
            for word in ADDING:
                self.assertIsNone(manner_of(word).found(pairs((0, 0, a, 0, b))))


class AdjustedTest(unittest.TestCase):
    def test_by_hand(self):
        self.assertEqual(adjusted(4, 6), ((1, 4), (3, 8), (0, 1), (1, 1), (0, 1)))
        self.assertEqual(adjusted(16, 0), IDENTITY)
        self.assertEqual(adjusted(0, 0), ((0, 1), (0, 1), (0, 1), (1, 1), (0, 1)))
        self.assertEqual(adjusted(0, 16), ((0, 1), (1, 1), (0, 1), (1, 1), (0, 1)))

    def test_all_pairs_of_sixteenths(self):
        for gain, lift in itertools.product(range(17), repeat=2):
            with self.subTest(gain=gain, lift=lift):
                if gain + lift > 16:
                    check_refused(self, NoGain, adjusted, gain, lift)
                else:
                    told = adjusted(gain, lift)
                    check_told(self, told, (Fraction(gain, 16), Fraction(lift, 16), 0, 1, 0))
                    self.assertIs(stays(told), True)

    def test_what_it_tells_of_the_grounds(self):
        told = [laid(adjusted(3, 5), pairs(ground)) for ground in GROUNDS]
        rule = (Fraction(3, 16), Fraction(5, 16), 0, 1, 0)
        self.assertEqual(told, [pairs(lay(rule, ground)) for ground in GROUNDS])

    def test_what_is_no_sixteenth_is_refused_on_either_side(self):
        for thing in NO_SIXTEENTHS:
            with self.subTest(kind=type(thing)):
                for sixteenth in (0, 4, 16):
                    check_refused(self, NoGain, adjusted, thing, sixteenth)
                    check_refused(self, NoGain, adjusted, sixteenth, thing)
                check_refused(self, NoGain, adjusted, thing, thing)

    def test_two_that_come_to_a_sixteenth_are_not_enough(self):
        for gain, lift in ((17, -1), (-1, 17), (-4, 8), (8, -4), (FORTY, 1 - FORTY)):
            check_refused(self, NoGain, adjusted, gain, lift)

    def test_what_is_refused_changes_nothing(self):
        check_refused(self, NoGain, adjusted, 9, 8)
        self.assertEqual(adjusted(9, 7), pairs((Fraction(9, 16), Fraction(7, 16), 0, 1, 0)))


class InterfaceTest(unittest.TestCase):
    def test_every_name_is_there(self):
        for name in ("WORDS", "Manner", "Over", "Under", "Screen", "Times", "Atop", "manner_of", "weakened", "adjusted"):
            self.assertTrue(hasattr(manners, name))
        for manner_class in CLASSES + (Manner,):
            for name in ("word", "rule", "found"):
                self.assertTrue(callable(getattr(manner_class(), name)))

    def test_what_is_told_are_fractions(self):
        for word in WRITTEN_WORDS:
            check_fractions(self, manner_of(word).rule(shade(2, 6)), 5)
        check_fractions(self, adjusted(2, 6), 5)


if __name__ == "__main__":
    unittest.main()
