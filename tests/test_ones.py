"""Points 28 and 29: whether two layers are one, and whether a group laid by itself is what it is let through."""

import copy
import random
import unittest

from glazehall.errors import NoManner
from glazehall.ones import apart, one_layer
from glazehall.plans import rule_of, rule_of_all, value_of
from glazehall.rules import grounds, laid
from glazehall.shades import CLEAR, shade
from helpers import GROUNDS, TINY, WORDS, check_fractions, check_refused, is_shade, lay, manner_rule, pairs, plain_rule
from helpers import plain_row, some_plan, some_shade, some_share

NO_WORDS = ("", "Over", "OVER", " over", "over ", "ov", "beside", "clear", None, True, False, 0, 1, ("over",), ["over"],
            {"over": 1}, 1.5, object())
NOTHING, BLACK, WHITE = [pairs(ground) for ground in GROUNDS]


def paint(word, colour, thickness, m=(1, 1)):
    return ("paint", word, m, shade(colour, thickness))


def through(*plans):
    return ("group", "over", True, (1, 1), plans)


def alone(word, *plans):
    return ("group", word, False, (1, 1), plans)


def only_source(word, rule):
    """By point 13, over Fractions; None where it is no shade."""
    g, p, a, q, b = rule
    source = (p, 1 - g) if word == "atop" else (a, b)
    return source if is_shade(source) else None


def first_ground(word, source, plans):
    """The first ground over which a source tells something else than plans laid plainly, or None."""
    for ground in GROUNDS:
        if lay(manner_rule(word, *source), ground) != plain_row(plans, ground):
            return pairs(ground)
    return None


def plain_one_layer(found, word):
    sources = []
    for place, both in enumerate(found):
        source = only_source(word, plain_rule(both))
        ground = NOTHING if source is None else first_ground(word, source, both)
        if ground is not None:
            return ("parts", place, ground)
        sources.append(pairs(source))
    return ("one", sources)


def plain_apart(word, cells):
    for place, plans in enumerate(cells):
        ground = first_ground(word, plain_row(plans, (0, 0)), plans)
        if ground is not None:
            return (place, ground)
    return None


def some_of_one_manner(chance, word, depth):
    """A plan that is, whatever is drawn, one layer of this manner."""
    kind = chance.choice(("paint", "paint", "alone", "through") if depth else ("paint",))
    if kind == "paint":
        return ("paint", word, some_share(chance), some_shade(chance))
    if kind == "alone":
        plans = tuple(some_plan(chance, depth - 1) for number in range(chance.randrange(4)))
        return ("group", word, False, some_share(chance), plans)
    plans = tuple(some_of_one_manner(chance, word, depth - 1) for number in range(chance.randrange(4)))
    return ("group", chance.choice(WORDS), True, some_share(chance), plans)


class OnesCase(unittest.TestCase):
    def check_one_layer(self, found, word):
        """That what is told is what the document asks; tells it."""
        told = one_layer(found, word)
        self.assertEqual(told, plain_one_layer(found, word))
        self.assertIs(type(told), tuple)
        if told[0] == "one":
            self.assertIs(type(told[1]), list)
            self.assertEqual(len(told[1]), len(found))
            for source, both in zip(told[1], found):
                check_fractions(self, source, 2)
                self.assertEqual(rule_of(("paint", word, (1, 1), source)), rule_of_all(both))
        else:
            self.assertEqual([type(part) for part in told], [str, int, tuple])
            self.assertIn(told[2], grounds())
        return told

    def check_apart(self, word, cells):
        told = apart(word, cells)
        self.assertEqual(told, plain_apart(word, cells))
        if told is not None:
            self.assertEqual([type(part) for part in told], [int, tuple])
            self.assertIn(told[1], grounds())
        return told


class OneTest(OnesCase):
    def test_by_hand(self):
        both = (paint("over", 4, 8), paint("over", 8, 8))
        self.assertEqual(one_layer([both], "over"), ("one", [((5, 8), (3, 4))]))
        both = (paint("under", 4, 8), paint("under", 8, 8))
        self.assertEqual(one_layer([both], "under"), ("one", [((1, 2), (3, 4))]))
        both = (paint("screen", 4, 8), paint("screen", 8, 8))
        self.assertEqual(one_layer([both], "screen"), ("one", [((5, 8), (3, 4))]))
        both = (paint("times", 4, 8), paint("times", 8, 8))
        self.assertEqual(one_layer([both], "times"), ("one", [((1, 2), (3, 4))]))
        both = (paint("atop", 4, 8), paint("atop", 8, 8))
        self.assertEqual(one_layer([both], "atop"), ("one", [((5, 8), (3, 4))]))

    def test_the_lower_one_comes_first(self):
        self.assertEqual(one_layer([(paint("over", 0, 16), paint("over", 4, 8))], "over"), ("one", [((1, 4), (1, 1))]))
        self.assertEqual(one_layer([(paint("over", 4, 8), paint("over", 0, 16))], "over"), ("one", [((0, 1), (1, 1))]))

    def test_two_layers_of_the_manner(self):
        for word in WORDS:
            found = [(paint(word, c, t), paint(word, d, u)) for t in (0, 5, 16) for c in (0, t // 2, t)
                     for u in (0, 9, 16) for d in (0, u // 2, u)]
            self.assertEqual(self.check_one_layer(found, word)[0], "one")

    def test_two_layers_of_the_manner_weakened(self):
        for word in WORDS:
            found = [(paint(word, 4, 8, m), paint(word, 3, 16, k)) for m in ((0, 1), (1, 3), (1, 1)) for k in ((0, 1), (7, 256))]
            self.assertEqual(self.check_one_layer(found, word)[0], "one")

    def test_nothing_below_or_above(self):
        for word in WORDS:
            for other in WORDS:
                nought = paint(other, 9, 16, (0, 1))
                found = [(nought, paint(word, 4, 8)), (paint(word, 4, 8), paint(other, 0, 0)), (nought, nought)]
                self.assertEqual(self.check_one_layer(found, word), ("one", [shade(4, 8), shade(4, 8), CLEAR]))

    def test_adjusting_plans_are_one_layer_atop(self):
        found = [(("adjust", 12, 3, (1, 1)), ("adjust", 5, 11, (1, 2))), (("adjust", 0, 0, (1, 1)), paint("atop", 4, 8))]
        self.assertEqual(self.check_one_layer(found, "atop")[0], "one")
        self.assertEqual(one_layer([(("adjust", 12, 3, (1, 1)), paint("atop", 0, 0))], "atop"), ("one", [shade(3, 4)]))

    def test_groups(self):
        for word in WORDS:
            inner = alone(word, paint("screen", 4, 8), paint("atop", 3, 9))
            found = [
                (through(paint(word, 4, 8), paint(word, 5, 9)), alone(word, paint("over", 4, 8))),
                (through(through(paint(word, 4, 8)), inner), through()),
                (alone(word, through(inner), paint("under", 1, 2)), ("group", "times", True, (1, 3), (inner,))),
            ]
            self.assertEqual(self.check_one_layer(found, word)[0], "one")

    def test_a_layer_above_that_hides_all(self):
        for word in ("under", "screen", "times", "atop"):
            both = (paint(word, 4, 8), paint("over", 3, 16))
            self.assertEqual(self.check_one_layer([both], "over"), ("one", [shade(3, 16)]))

    def test_many_of_one_manner(self):
        chance = random.Random(28)
        for word in WORDS:
            for number in range(20):
                found = [(some_of_one_manner(chance, word, 2), some_of_one_manner(chance, word, 2))
                         for cell in range(chance.randrange(1, 6))]
                self.assertEqual(self.check_one_layer(found, word)[0], "one")

    def test_what_a_source_tells_is_what_the_plans_tell(self):
        found = [(paint("times", 4, 8), paint("times", 7, 11)), (paint("times", 0, 8), paint("times", 5, 5))]
        for source, both in zip(one_layer(found, "times")[1], found):
            for value in grounds() + [shade(3, 7), ((-5, 3), (7, 2))]:
                self.assertEqual(laid(rule_of(("paint", "times", (1, 1), source)), value), value_of(both, value))

    def test_of_no_pairs(self):
        for word in WORDS:
            self.assertEqual(one_layer([], word), ("one", []))


class PartsTest(OnesCase):
    def test_each_ground(self):
        clear = paint("over", 0, 0)
        for word, plan, ground in (
            ("over", paint("atop", 4, 8), BLACK), ("over", paint("under", 4, 8), BLACK),
            ("over", paint("screen", 4, 8), WHITE), ("over", paint("times", 4, 8), BLACK),
            ("under", paint("over", 4, 8), BLACK), ("under", paint("times", 4, 8), WHITE),
            ("under", paint("atop", 0, 8), WHITE), ("screen", paint("over", 4, 8), WHITE),
            ("screen", paint("times", 4, 8), BLACK), ("times", paint("under", 4, 8), WHITE),
            ("times", paint("over", 4, 8), BLACK), ("atop", paint("over", 4, 8), NOTHING),
            ("atop", paint("over", 0, 8), NOTHING), ("atop", paint("screen", 4, 8), NOTHING),
        ):
            with self.subTest(word=word, plan=plan):
                self.assertEqual(self.check_one_layer([(clear, plan)], word), ("parts", 0, ground))
                self.assertEqual(self.check_one_layer([(plan, clear)], word), ("parts", 0, ground))

    def test_where_found_tells_none(self):
        # Both take away from what is white beneath: p is below 0, so that (p, 1 - g) is no shade.
        for plan in (paint("under", 4, 8), paint("times", 4, 8), paint("under", 1, 16)):
            self.assertIsNone(only_source("atop", plain_rule([plan])))
            for both in ((plan, paint("atop", 0, 0)), (paint("atop", 0, 0), plan)):
                self.assertEqual(self.check_one_layer([both], "atop"), ("parts", 0, NOTHING))
        found = [(paint("atop", 4, 8), paint("atop", 1, 2)), (paint("under", 4, 8), paint("atop", 1, 2))]
        self.assertEqual(self.check_one_layer(found, "atop"), ("parts", 1, NOTHING))

    def test_the_first_cell(self):
        fine = (paint("over", 4, 8), paint("over", 8, 8))
        black = (paint("over", 4, 8), paint("under", 8, 8))
        white = (paint("over", 4, 8), paint("screen", 4, 8))
        self.assertEqual(self.check_one_layer([fine, fine, white, black], "over"), ("parts", 2, WHITE))
        self.assertEqual(self.check_one_layer([fine, black, fine, white], "over"), ("parts", 1, BLACK))
        self.assertEqual(self.check_one_layer([white, black], "over"), ("parts", 0, WHITE))
        self.assertEqual(self.check_one_layer([fine] * 143 + [black], "over"), ("parts", 143, BLACK))

    def test_a_little_thing_parts(self):
        tiny = ("paint", "screen", (1, 1), pairs((1 - TINY, 1)))
        self.assertEqual(self.check_one_layer([(paint("over", 0, 0), tiny)], "over"), ("parts", 0, WHITE))
        like = ("paint", "screen", (1, 1), pairs((TINY, TINY)))
        self.assertEqual(self.check_one_layer([(paint("over", 0, 0), like)], "over"), ("one", [pairs((TINY, TINY))]))

    def test_groups(self):
        shift = ("adjust", 12, 3, (1, 1))
        self.assertEqual(self.check_one_layer([(paint("over", 4, 8), through(shift))], "over"), ("parts", 0, BLACK))
        self.assertEqual(self.check_one_layer([(paint("over", 4, 8), alone("atop", shift))], "over"), ("one", [shade(4, 8)]))
        halves = ("group", "over", True, (1, 2), (paint("screen", 4, 8), through(paint("over", 4, 8))))
        self.assertEqual(self.check_one_layer([(halves, paint("over", 1, 2))], "over"), ("parts", 0, WHITE))

    def test_drawn_ones(self):
        chance = random.Random(29)
        seen = {}
        for number in range(400):
            found = [(some_plan(chance, 3), some_plan(chance, 3)) for cell in range(chance.randrange(1, 4))]
            for word in WORDS:
                told = self.check_one_layer(found, word)
                seen[(word, told[0], told[-1] if told[0] == "parts" else None)] = True
        for word in WORDS:
            self.assertIn((word, "one", None), seen)
        for ground in grounds():
            self.assertTrue(any((word, "parts", ground) in seen for word in WORDS))

    def test_drawn_ones_with_one_that_parts(self):
        chance = random.Random(30)
        for word in WORDS:
            for number in range(30):
                found = [(some_of_one_manner(chance, word, 1), some_of_one_manner(chance, word, 1)) for cell in range(4)]
                found[chance.randrange(4)] = (some_plan(chance, 2), some_plan(chance, 2))
                self.check_one_layer(found, word)


class OneLayerHandedInTest(OnesCase):
    def test_the_list_handed_in_stays_and_the_told_one_is_new(self):
        found = [(paint("over", 4, 8), alone("over", paint("under", 1, 2))), (paint("over", 1, 1), through())]
        before = copy.deepcopy(found)
        told = one_layer(found, "over")
        self.assertEqual(found, before)
        wanted = list(told[1])
        found.clear()
        self.assertEqual(told, ("one", wanted))
        told[1].clear()
        self.assertEqual(one_layer(before, "over"), ("one", wanted))
        empty = []
        self.assertIsNot(one_layer(empty, "over")[1], empty)
        one_layer([], "over")[1].append(1)
        self.assertEqual(one_layer([], "over"), ("one", []))

    def test_words_of_no_manner(self):
        fine = (paint("over", 4, 8), paint("over", 8, 8))
        for word in NO_WORDS:
            for found in ([], [fine], [fine, (paint("over", 4, 8), paint("under", 4, 8))]):
                with self.subTest(word=word):
                    check_refused(self, NoManner, one_layer, found, word)
        self.assertEqual(fine, (paint("over", 4, 8), paint("over", 8, 8)))


class ApartTest(OnesCase):
    def test_of_no_cells(self):
        for word in WORDS:
            self.assertIsNone(apart(word, []))

    def test_cells_of_no_plans(self):
        for word in WORDS:
            self.assertIsNone(self.check_apart(word, [()]))
            self.assertIsNone(self.check_apart(word, [(), (), ()]))

    def test_one_plan_of_the_manner_itself(self):
        for word in ("over", "under", "screen", "times"):
            for thickness in range(17):
                for colour in range(0, thickness + 1, 3):
                    for m in ((1, 1), (1, 3), (0, 1)):
                        self.assertIsNone(self.check_apart(word, [(paint(word, colour, thickness, m),)]))

    def test_several_plans_of_the_manner_itself(self):
        for word in ("over", "under", "screen", "times"):
            plans = (paint(word, 4, 8), paint(word, 3, 9, (1, 2)), paint(word, 0, 5), paint(word, 16, 16, (1, 7)))
            self.assertIsNone(self.check_apart(word, [plans, plans[:2], plans[::-1], ()]))

    def test_atop_meets_nothing_by_itself(self):
        self.assertEqual(self.check_apart("atop", [(paint("atop", 4, 8),)]), (0, BLACK))
        self.assertEqual(self.check_apart("atop", [(paint("atop", 0, 8),)]), (0, WHITE))
        self.assertIsNone(self.check_apart("atop", [(paint("atop", 0, 0),)]))
        self.assertIsNone(self.check_apart("atop", [(paint("atop", 4, 8, (0, 1)), paint("under", 0, 0))]))

    def test_each_ground(self):
        for word, plans, place_ground in (
            ("over", (paint("screen", 4, 8),), (0, WHITE)), ("over", (paint("under", 4, 8),), (0, BLACK)),
            ("over", (("adjust", 12, 3, (1, 1)),), (0, BLACK)), ("over", (("adjust", 12, 0, (1, 1)),), (0, WHITE)),
            ("under", (paint("times", 4, 8),), (0, WHITE)), ("under", (paint("over", 4, 8),), (0, BLACK)),
            ("screen", (paint("over", 4, 8),), (0, WHITE)), ("screen", (paint("atop", 4, 8),), (0, BLACK)),
            ("times", (paint("under", 4, 8),), (0, WHITE)), ("times", (paint("screen", 4, 8),), (0, BLACK)),
            ("atop", (paint("over", 4, 8),), (0, NOTHING)), ("atop", (paint("under", 0, 8),), (0, NOTHING)),
        ):
            with self.subTest(word=word, plans=plans):
                self.assertEqual(self.check_apart(word, [plans]), place_ground)

    def test_the_first_cell(self):
        fine = (paint("over", 4, 8), paint("over", 8, 8))
        white = (paint("over", 4, 8), paint("screen", 4, 8))
        black = (paint("under", 4, 8),)
        self.assertIsNone(self.check_apart("over", [fine, (), fine]))
        self.assertEqual(self.check_apart("over", [fine, (), white, black]), (2, WHITE))
        self.assertEqual(self.check_apart("over", [fine, black, white]), (1, BLACK))
        self.assertEqual(self.check_apart("over", [black, white, fine]), (0, BLACK))
        self.assertEqual(self.check_apart("over", [fine] * 143 + [white]), (143, WHITE))

    def test_a_layer_that_hides_all(self):
        self.assertIsNone(self.check_apart("over", [(paint("under", 4, 8), paint("screen", 1, 2), paint("over", 3, 16))]))

    def test_groups_in_groups(self):
        for kind in (True, False):
            inner = ("group", "over", kind, (1, 2), (paint("over", 4, 8), alone("over", paint("atop", 1, 2))))
            self.assertIsNone(self.check_apart("over", [(paint("over", 1, 3), inner, through(inner, alone("over", inner)))]))
            other = ("group", "screen", kind, (1, 2), (paint("screen", 4, 8), through(paint("screen", 1, 2))))
            self.assertEqual(self.check_apart("over", [(inner,), (inner, through(other))]), (1, WHITE))
            self.assertIsNone(self.check_apart("screen", [(other, through(other)), ()]))

    def test_a_little_thing_parts(self):
        self.assertEqual(self.check_apart("over", [(("paint", "screen", (1, 1), pairs((1 - TINY, 1))),)]), (0, WHITE))
        self.assertIsNone(self.check_apart("over", [(("paint", "screen", (1, 1), pairs((1 - TINY, 1 - TINY))),)]))

    def test_drawn_ones(self):
        chance = random.Random(31)
        seen = {}
        for number in range(400):
            cells = [tuple(some_plan(chance, 3) for plan in range(chance.randrange(4))) for cell in range(chance.randrange(4))]
            for word in WORDS:
                told = self.check_apart(word, cells)
                seen[(word, told and told[1])] = True
        for word in WORDS:
            for ground in (None, BLACK, WHITE):
                self.assertIn((word, ground), seen)
        self.assertIn(("atop", NOTHING), seen)

    def test_drawn_ones_of_one_manner(self):
        chance = random.Random(32)
        for word in ("over", "under", "screen", "times"):
            for number in range(30):
                cells = [tuple(some_of_one_manner(chance, word, 2) for plan in range(chance.randrange(4)))
                         for cell in range(chance.randrange(1, 5))]
                self.assertIsNone(self.check_apart(word, cells))

    def test_what_is_handed_in_stays(self):
        cells = [(paint("over", 4, 8), through(paint("under", 1, 2))), ()]
        before = copy.deepcopy(cells)
        told = apart("over", cells)
        self.assertEqual(cells, before)
        cells.clear()
        self.assertEqual(told, (0, BLACK))

    def test_words_of_no_manner(self):
        for word in NO_WORDS:
            for cells in ([], [()], [(paint("over", 4, 8),)], [(), (paint("under", 4, 8),)]):
                with self.subTest(word=word):
                    check_refused(self, NoManner, apart, word, cells)


if __name__ == "__main__":
    unittest.main()
