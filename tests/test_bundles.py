"""Points 38 and 39: bundles, row by row, and the halls read from them."""

import inspect
import itertools
import random
import unittest
from fractions import Fraction

from glazehall.bundles import bundle, read_bundle
from glazehall.errors import NoBundle
from glazehall.hall import Hall
from glazehall.rules import IDENTITY
from glazehall.shades import shade
from drawn_deeds import Drawn
from hall_checks import ALL_GROUNDS, check_all, check_layers, check_shown, check_things, done, plainly_done
from helpers import FORTY, check_refused, pair, plain_rule, pairs
from plain_bundles import plain_read
from plain_hall import PlainHall

NINES = 10 ** 39 - 1
SMALL = """hall 5 2 9
paint 1 0 16 over
cell 4 0 1/4 1/1
cell 0 1 0/1 1/2
mask 0 0 0
mask 4 1 15
group 3 0 7 times alone
mask 1 0 3
adjust 5 3 16 12 3
group 8 3 0 under through
paint 2 8 16 atop
paint 4 0 16 screen
"""
BARE = "hall 2 2 3\npaint 1 0 16 over\ngroup 2 0 16 over alone\n"


def deep_bundle(depth):
    """Groups in groups, with a paint layer in the innermost of so many."""
    rows = [f"hall 1 1 {depth + 2}"]
    rows += [f"group {number} {number - 1} 16 over alone" for number in range(1, depth + 1)]
    return "\n".join(rows + [f"paint {depth + 1} {depth} 16 over"]) + "\n"


def row_bundle(*lengths):
    """A group with a row of layers for each length but the last, which is the top row's; its groups count there."""
    rows, number = [], itertools.count(1)
    for length in lengths[:-1]:
        group = next(number)
        rows.append(f"group {group} 0 16 over through")
        rows += [f"paint {next(number)} {group} 16 over" for place in range(length)]
    rows += [f"adjust {next(number)} 0 16 8 8" for place in range(lengths[-1] - len(lengths) + 1)]
    return f"hall 1 1 {next(number)}\n" + "".join(row + "\n" for row in rows)


class BundlesCase(unittest.TestCase):
    def check_read(self, text):
        """That a text is read as the hall that the plain reader finds, and written again as it stands."""
        hall = read_bundle(text)
        self.assertIs(type(hall), Hall)
        plain = plain_read(text)
        self.assertIsNotNone(plain, text)
        check_layers(self, hall, plain)
        check_things(self, hall, plain)
        check_shown(self, hall, plain, ALL_GROUNDS)
        self.assertEqual(bundle(hall), text)
        self.assertEqual((hall.told(), hall.stands()), ([], []))
        self.assertEqual(list(hall.tiles().items()), list(plain.tiles().items()))
        return hall

    def check_none(self, *texts):
        for text in texts:
            with self.subTest(text=text):
                self.assertIsNone(plain_read(text))
                check_refused(self, NoBundle, read_bundle, text)


class WrittenTest(BundlesCase):
    def test_the_interface(self):
        self.assertEqual(list(inspect.signature(bundle).parameters), ["hall"])
        self.assertEqual(list(inspect.signature(read_bundle).parameters), ["text"])
        self.assertEqual(read_bundle(text=bundle(hall=Hall(1, 1))).order(), [])

    def test_a_new_hall(self):
        self.assertEqual(bundle(Hall(1, 1)), "hall 1 1 1\n")
        self.assertEqual(bundle(Hall(12, 7)), "hall 12 7 1\n")
        self.assertIs(type(bundle(Hall(1, 1))), str)

    def test_by_hand(self):
        hall = Hall(5, 2)
        self.assertEqual([hall.add_paint(), hall.add_paint(), hall.add_group(), hall.add_paint()], [1, 2, 3, 4])
        hall.turn(3, "times")
        hall.strength(3, 7)
        self.assertEqual(hall.add_adjust(12, 3, 3), 5)
        self.assertEqual([hall.add_paint(), hall.add_paint()], [6, 7])
        self.assertEqual(hall.add_group("under", True, 3, 1), 8)
        hall.strength(8, 0)
        hall.take(6)
        hall.take(7)
        hall.shift(2, 8, 0)
        hall.turn(2, "atop")
        hall.turn(4, "screen")
        for number in (1, 3, 4):
            hall.shift(number, 0, 2)
        hall.touch(1, 0, 1, 0, 8)
        hall.touch(1, 4, 0, 4, 16)
        hall.touch(1, 2, 0, 4, 16)
        hall.touch(1, 2, 0, 0, 0)
        hall.mask(1, 4, 1, 15)
        hall.mask(1, 0, 0, 0)
        hall.mask(1, 1, 1, 3)
        hall.mask(1, 1, 1, 16)
        hall.mask(3, 1, 0, 3)
        self.assertEqual(bundle(hall), SMALL)
        hall.stand()
        self.assertEqual(bundle(hall), SMALL)

    def test_next_behind_takes_and_goings_back(self):
        hall = Hall(1, 1)
        stand = hall.stand()
        hall.take(hall.add_paint())
        hall.add_group()
        hall.back(stand)
        self.assertEqual(bundle(hall), "hall 1 1 3\n")

    def test_a_bundle_changes_nothing(self):
        hall = read_bundle(SMALL)
        hall.touch(1, 4, 1, 3, 3)
        tiles, told = hall.tiles(), hall.told()
        self.assertEqual(bundle(hall), bundle(hall))
        self.assertEqual((hall.tiles(), hall.told()), (tiles, told))

    def test_dabs_have_bottoms_of_256(self):
        hall = read_bundle("hall 1 1 2\npaint 1 0 16 over\ncell 0 0 15/256 225/256\n")
        self.assertEqual(hall.cell(1, 0, 0), ((15, 256), (225, 256)))


class ReadTest(BundlesCase):
    def test_by_hand(self):
        hall = self.check_read(SMALL)
        self.assertEqual((hall.order(), hall.order(3), hall.order(8)), ([1, 3, 4], [5, 8], [2]))
        self.assertEqual(hall.layer(1), ("paint", 0, 16, "over"))
        self.assertEqual(hall.layer(3), ("group", 0, 7, "times", False))
        self.assertEqual(hall.layer(8), ("group", 3, 0, "under", True))
        self.assertEqual(hall.layer(5), ("adjust", 3, 16, 12, 3))
        self.assertEqual((hall.cell(1, 4, 0), hall.cell(1, 0, 1)), (shade(4, 16), shade(0, 8)))
        self.assertEqual([hall.mask_at(1, 0, 0), hall.mask_at(1, 4, 1), hall.mask_at(3, 1, 0)], [0, 15, 3])
        self.assertEqual(hall.tiles(), {1: 1, 2: 1, 3: 1, 4: 1, 5: 1})
        self.assertEqual(hall.add_paint(), 9)

    def test_each_size(self):
        for wide, high in itertools.product(range(1, 13), repeat=2):
            self.check_read(f"hall {wide} {high} 1\n")
            text = f"hall {wide} {high} 2\npaint 1 0 0 over\ncell {wide - 1} {high - 1} 1/3 1/2\nmask {wide - 1} {high - 1} 0\n"
            self.check_read(text)

    def test_any_shade_but_the_clear_one(self):
        for s, u in (
            (0, 1), (1, 1), (0, Fraction(1, NINES)), (Fraction(1, NINES), 1), (Fraction(NINES - 1, NINES), 1),
            (Fraction(1, 3), Fraction(1, 3)), (Fraction(2, 7), Fraction(3, 10 ** 38 + 1)), (Fraction(1, 10 ** 38), 1),
        ):
            s, u = min(s, u), u
            (a, b), (c, d) = pairs((s, u))
            hall = self.check_read(f"hall 1 1 2\npaint 1 0 16 times\ncell 0 0 {a}/{b} {c}/{d}\nmask 0 0 5\n")
            self.assertEqual(hall.cell(1, 0, 0), pairs((s, u)))
            self.assertEqual(hall.rule_at(0, 0), pairs(plain_rule(hall.plan_at(0, 0))))

    def test_next_of_many_figures(self):
        for following in (2, 10, 10 ** 38, NINES):
            hall = self.check_read(f"hall 1 1 {following}\npaint 1 0 16 over\n")
            self.assertEqual([hall.add_group(), hall.add_paint()], [following, following + 1])
        text = bundle(hall)
        self.assertEqual(text.split("\n")[0], f"hall 1 1 {10 ** 39 + 1}")
        self.assertEqual(self.check_read(text).add_paint(), 10 ** 39 + 1)

    def test_numbers_of_many_figures(self):
        text = f"hall 1 1 {NINES}\ngroup {NINES - 1} 0 16 over alone\npaint 7 {NINES - 1} 16 over\n"
        hall = self.check_read(text)
        self.assertEqual((hall.order(), hall.order(NINES - 1)), ([NINES - 1], [7]))

    def test_bounds_that_are_just_kept(self):
        for text in (
            deep_bundle(0), deep_bundle(1), deep_bundle(3), row_bundle(12), row_bundle(12, 1), row_bundle(12, 12),
            row_bundle(12, 11), row_bundle(0, 12), row_bundle(7, 7, 10), row_bundle(0, 0, 2), "hall 1 1 2\ngroup 1 0 0 over through\n",
        ):
            self.check_read(text)
        text = deep_bundle(3).replace("hall 1 1 5", "hall 1 1 6") + "group 5 3 16 over alone\n"
        hall = self.check_read(text)
        self.assertEqual(hall.order(3), [4, 5])

    def test_layers_behind_a_groups_own(self):
        self.check_read(
            "hall 1 1 6\ngroup 1 0 16 over alone\ngroup 2 1 16 over alone\npaint 3 2 16 over\npaint 4 1 16 over\n"
            "paint 5 0 16 over\n")

    def test_no_stands_come_along(self):
        hall = Hall(2, 2)
        hall.add_paint()
        hall.stand()
        read = read_bundle(bundle(hall))
        self.assertEqual((read.stands(), read.stand()), ([], 1))

    def test_a_read_hall_shares_nothing_with_the_first(self):
        hall = read_bundle(SMALL)
        read = read_bundle(bundle(hall))
        hall.touch(1, 4, 0, 9, 9)
        hall.take(3)
        self.assertEqual(bundle(read), SMALL)
        read.mask(1, 0, 0, 9)
        self.assertEqual(hall.mask_at(1, 0, 0), 0)

    def test_rules_of_a_read_hall(self):
        hall = read_bundle("hall 2 1 3\ngroup 2 0 8 over through\nmask 1 0 8\nadjust 1 2 16 8 4\n")
        self.assertEqual(hall.rule_at(0, 0), ((3, 4), (1, 8), (0, 1), (1, 1), (0, 1)))
        self.assertEqual(hall.rule_at(1, 0), ((7, 8), (1, 16), (0, 1), (1, 1), (0, 1)))
        hall.take(2)
        self.assertEqual((hall.told(), hall.rule_at(1, 0)), ([(0, 0)], IDENTITY))


class DrawnTest(BundlesCase):
    def test_drawn_halls_and_the_same_deeds_behind(self):
        for seed, size in enumerate(((1, 1), (5, 4), (2, 9), (6, 6), (12, 3), (4, 5))):
            with self.subTest(seed=seed, size=size):
                hall, plain = Hall(*size), PlainHall(*size)
                drawn = Drawn(random.Random(seed), plain)
                for step in range(60):
                    self.both_done(hall, plain, drawn.deed())
                    self.assertEqual(bundle(hall), plain.bundle())
                read = self.check_read(bundle(hall))
                self.read_and_first(hall, read, plain, drawn)

    def read_and_first(self, hall, read, plain, drawn):
        """The same deeds done to both, but for stands; a read hall tells of tiles from its first deed on."""
        begun = False
        for step in range(60):
            name, things = drawn.deed()
            if name not in ("stand", "back", "let_go"):
                told = self.both_done(hall, plain, (name, things))
                self.assertEqual(done(read, name, things), told)
                begun = begun or told[0] == "told"
                self.assertEqual(read.told(), hall.told() if begun else [])
                self.assertEqual(bundle(read), bundle(hall))
        check_things(self, read, plain)
        check_shown(self, read, plain, ALL_GROUNDS)

    def both_done(self, hall, plain, deed):
        told = done(hall, *deed)
        self.assertEqual(told, plainly_done(plain, *deed))
        return told

    def test_deeds_done_to_halls_with_shades_of_all_kinds(self):
        text = "hall 5 2 4\npaint 1 0 16 over\ncell 0 0 1/3 1/2\ncell 4 1 2/7 1/1\nmask 0 0 5\ngroup 2 0 9 atop alone\n" \
            "paint 3 2 16 screen\ncell 0 0 1/1000003 7/1000003\n"
        for seed in range(10):
            hall, plain = read_bundle(text), plain_read(text)
            drawn = Drawn(random.Random(seed), plain)
            for step in range(40):
                self.both_done(hall, plain, drawn.deed())
                self.assertEqual(hall.told(), plain.told())
                self.assertEqual(bundle(hall), plain.bundle())
            check_all(self, hall, plain)


class NoBundleTest(BundlesCase):
    def test_what_is_no_text(self):
        for thing in (None, 3, True, b"hall 1 1 1\n", ["hall 1 1 1\n"], ("hall 1 1 1",), Hall(1, 1), {}):
            check_refused(self, NoBundle, read_bundle, thing)

    def test_no_rows(self):
        self.check_none("", "\n", " ", "\n\n", "hall", "hall\n", "no bundle at all", "hall 1 1 1", "hall 1 1 1 \n")

    def test_the_first_row(self):
        self.check_none(
            "hall 1 1\n", "hall 1 1 1 1\n", "Hall 1 1 1\n", "halls 1 1 1\n", "1 1 1\n", "hall 0 1 1\n", "hall 1 0 1\n",
            "hall 13 1 1\n", "hall 1 13 1\n", f"hall {FORTY} 1 1\n", "hall -1 1 1\n", "hall 1 1 0\n", "hall 1 1 -1\n",
            "hall 01 1 1\n", "hall 1 1 01\n", "hall 1 1 +1\n", "hall 1 1 1_0\n", "hall 1 1 1.0\n", "hall 1 1 1/1\n",
            "hall 1 1 \n", "hall  1 1\n", "hall 1  1 1\n", " hall 1 1 1\n", "hall\t1\t1\t1\n", "hall 1 1 one\n",
            "paint 1 1 1\n", "mask 1 1 1\n", "paint 1 0 16 over\n", "hall 1 1 1\nhall 1 1 1\n", "hall 1 1 9\nhall 1 0 3\n",
            "hall 1 1 9\nhall 1 0 3 over\n", "hall 1 1 00\n", "hall 1 1 " + "0" * 40 + "1\n",
        )

    def test_ends_of_rows_and_blanks(self):
        for text in (SMALL, BARE):
            self.check_none(
                text[:-1], text + "\n", "\n" + text, text.replace("\n", "\r\n"), text.replace("\n", "\r"), text + " ",
                text.replace("\n", "\n\n", 1), text.replace("\n", " \n", 1), text.replace(" ", "  ", 1), text + text,
                text.replace("\npaint", "\n paint", 1), text.replace(" ", "\t", 1), text.replace("\n", " ", 1), text.upper(),
                text.replace("\n", "\x0b"), text.replace(" ", "\xa0"), "\ufeff" + text,
            )

    def test_figures_of_other_scripts(self):
        for sign in ("\u0661", "\uff11", "\u00b9", "\u0967"):
            self.check_none(SMALL.replace("1", sign, 1), BARE.replace("paint 1", "paint " + sign), f"hall 1 1 {sign}\n")

    def test_words_more_less_or_otherwise(self):
        rows = SMALL.splitlines()
        for place, row in enumerate(rows):
            words = row.split(" ")
            for at in range(len(words)):
                for other in (words[:at] + words[at + 1:], words[:at] + [words[at]] * 2 + words[at + 1:],
                              words[:at] + ["x"] + words[at + 1:], words[:at] + [""] + words[at + 1:],
                              words[:at] + ["-" + words[at]] + words[at + 1:], words[:at] + ["+" + words[at]] + words[at + 1:],
                              words[:at] + ["0" + words[at]] + words[at + 1:], words[:at] + [words[at] + ".0"] + words[at + 1:],
                              words[:at] + [words[at] + "_"] + words[at + 1:], words[:at] + ["99"] + words[at + 1:]):
                    text = "\n".join(rows[:place] + [" ".join(other)] + rows[place + 1:]) + "\n"
                    if plain_read(text) is None:
                        check_refused(self, NoBundle, read_bundle, text)
                    else:
                        self.check_read(text)

    def test_rows_left_out_twice_or_in_another_order(self):
        rows = SMALL.splitlines()
        texts = [rows[:place] + rows[place + 1:] for place in range(len(rows))]
        texts += [rows[:place] + [rows[place]] + rows[place:] for place in range(len(rows))]
        for one, other in itertools.combinations(range(len(rows)), 2):
            turned = list(rows)
            turned[one], turned[other] = rows[other], rows[one]
            texts.append(turned)
        refused = 0
        for text in ("\n".join(one) + "\n" for one in texts):
            if plain_read(text) is None:
                refused += 1
                check_refused(self, NoBundle, read_bundle, text)
            else:
                self.check_read(text)
        self.assertGreater(refused, 60)

    def test_layers(self):
        self.check_none(*["hall 2 2 5\n" + rows for rows in (
            "paint 0 0 16 over\n", "paint 5 0 16 over\n", "paint 6 0 16 over\n", f"paint {FORTY} 0 16 over\n",
            "paint 1 1 16 over\n", "paint 1 2 16 over\n", "paint 1 4 16 over\n", "paint 1 0 17 over\n",
            "paint 1 0 -1 over\n", "paint 1 0 16 Over\n", "paint 1 0 16 beneath\n", "paint 1 0 16\n", "paint 1 0 over\n",
            "paint 1 0 16 over alone\n", "paints 1 0 16 over\n", "layer 1 0 16 over\n", "paint 01 0 16 over\n",
            "paint 1 00 16 over\n", "paint 1 0 016 over\n", "paint 1 0 16/1 over\n", "paint 1 0 16 over over\n",
            "adjust 1 0 16 9 8\n", "adjust 1 0 16 17 0\n", "adjust 1 0 16 0 17\n", "adjust 1 0 16 8\n",
            "adjust 1 0 16 -1 8\n", "adjust 1 0 16 8 -1\n", "adjust 1 0 17 8 8\n", "adjust 1 0 16 8 08\n",
            "adjust 1 0 16 over 8\n", "adjust 1 0 16 8 8 8\n", "adjust 0 0 16 8 8\n", "adjust 1 3 16 8 8\n",
            "group 1 0 16 over\n", "group 1 0 16 over True\n", "group 1 0 16 over False\n", "group 1 0 16 over Through\n",
            "group 1 0 16 over alones\n", "group 1 0 16 alone over\n", "group 1 0 17 over alone\n",
            "group 1 1 16 over alone\n", "group 0 0 16 over alone\n", "group 5 0 16 over alone\n", "group 1 0 16 no alone\n",
            "group 1 0 16 over through alone\n",
        )])

    def test_numbers_given_twice(self):
        self.check_none(*["hall 2 2 5\ngroup 1 0 16 over alone\npaint 2 1 16 over\n" + row + "\n" for row in (
            "paint 1 0 16 over", "paint 2 0 16 over", "paint 2 1 16 over", "adjust 2 0 16 8 8", "group 1 0 16 over alone",
            "group 1 1 16 over alone",
        )])

    def test_a_row_that_is_not_there_or_no_groups(self):
        self.check_none(
            "hall 1 1 5\npaint 1 0 16 over\npaint 2 1 16 over\n", "hall 1 1 5\nadjust 1 0 16 8 8\npaint 2 1 16 over\n",
            "hall 1 1 5\npaint 2 1 16 over\ngroup 1 0 16 over alone\n", "hall 1 1 5\npaint 2 3 16 over\n",
            "hall 1 1 5\ngroup 1 2 16 over alone\ngroup 2 1 16 over alone\n", "hall 1 1 5\npaint 2 -1 16 over\n")

    def test_a_groups_own_layers_apart_from_it(self):
        self.check_none(
            "hall 1 1 5\ngroup 1 0 16 over alone\npaint 2 0 16 over\npaint 3 1 16 over\n",
            "hall 1 1 5\ngroup 1 0 16 over alone\ngroup 2 0 16 over alone\npaint 3 1 16 over\n",
            "hall 1 1 6\ngroup 1 0 16 over alone\ngroup 2 1 16 over alone\npaint 3 1 16 over\npaint 4 2 16 over\n",
            "hall 1 1 5\ngroup 1 0 16 over alone\npaint 2 1 16 over\npaint 3 0 16 over\npaint 4 1 16 over\n",
            "hall 1 1 5\ngroup 1 0 16 over alone\npaint 2 1 16 over\nmask 0 0 3\npaint 3 0 16 over\npaint 4 1 16 over\n")

    def test_too_many_and_too_deep(self):
        self.check_none(
            deep_bundle(4), deep_bundle(5), row_bundle(13), row_bundle(13, 1), row_bundle(1, 13), row_bundle(12, 11, 2),
            row_bundle(8, 8, 9), row_bundle(11, 11, 3), deep_bundle(3).replace("paint 4 3", "group 4 3").replace(
                "16 over\n", "16 over alone\n").replace("hall 1 1 5", "hall 1 1 6") + "paint 5 4 16 over\n")

    def test_cells(self):
        head = "hall 3 2 4\npaint 1 0 16 over\n"
        self.check_read(head + "cell 2 1 1/3 2/3\n")
        self.check_none(*[head + f"cell {row}\n" for row in (
            "3 0 1/2 1/2", "0 2 1/2 1/2", "-1 0 1/2 1/2", "0 -1 1/2 1/2", f"{FORTY} 0 1/2 1/2", "0 0 0/1 0/1", "0 0 2/4 1/2",
            "0 0 1/2 2/4", "0 0 0/2 1/2", "0 0 2/2 1/1", "0 0 1/2 2/2", "0 0 1/2 1/3", "0 0 2/1 3/1", "0 0 1/2 3/2",
            "0 0 -1/2 1/2", "0 0 1/-2 1/2", "0 0 -1/-2 1/2", "0 0 1/0 1/2", "0 0 0/0 1/2", "0 0 1/2 1/0", "0 0 1/2",
            "0 0 1/2 1/2 1/2", "0 0 1 1", "0 0 0 1", "0 0 1/2 1", "0 0 1/2/1 1/2", "0 0 1//2 1/2", "0 0 /2 1/2",
            "0 0 1/ 1/2", "0 0 / 1/2", "0 0 01/2 1/2", "0 0 1/02 1/2", "0 0 +1/2 1/2", "0 0 1/2 .5", "0 0 0.5 0.5",
            "00 0 1/2 1/2", "0 00 1/2 1/2", "0 0 1/2 1/1_0", "0 0 8 16", "0 0 1 /2 1/2", "0 1/2 1/2", "0 0 1/2 1/2 ",
        )])

    def test_cells_twice_in_another_order_or_of_no_paint_layer(self):
        head = "hall 3 2 4\n"
        one, two, three = "cell 0 0 1/2 1/2\n", "cell 1 0 1/2 1/2\n", "cell 0 1 1/2 1/2\n"
        paint, adjust, group = "paint 1 0 16 over\n", "adjust 2 0 16 8 8\n", "group 3 0 16 over alone\n"
        self.check_read(head + paint + one + two + three)
        self.check_none(
            head + paint + two + one, head + paint + three + two, head + paint + one + one, head + paint + one + three + two,
            head + adjust + one, head + group + one, head + one, head + one + paint, head + paint + adjust + one,
            head + paint + "mask 0 0 3\n" + one, head + paint + one + "mask 0 0 3\n" + two,
            head + paint + one + "cell 0 0 1/3 1/2\n")

    def test_masks(self):
        head = "hall 3 2 4\nadjust 1 0 16 8 8\n"
        self.check_read(head + "mask 0 0 0\nmask 2 0 15\nmask 0 1 7\nmask 2 1 1\n")
        self.check_none(*[head + f"mask {row}\n" for row in (
            "0 0 16", "0 0 17", "0 0 -1", "0 0 015", "0 0 1/2", "3 0 5", "0 2 5", "-1 0 5", "0 0", "0 0 5 5", "0 0 five",
            "0 0 5\nmask 0 0 5", "0 0 5\nmask 0 0 6", "1 0 5\nmask 0 0 5", "0 1 5\nmask 2 0 5", "0 0 5\nmask 0 0 16",
        )])
        self.check_none("hall 3 2 4\nmask 0 0 5\n", "hall 3 2 4\nmask 0 0 5\nadjust 1 0 16 8 8\n")

    def test_each_sign_left_out_put_in_or_put_for_another(self):
        chance = random.Random(38)
        for text in (SMALL, BARE, deep_bundle(3)):
            for place in range(len(text)):
                sign = chance.choice(" \n0123456789/-aehlopt")
                for other in (text[:place] + text[place + 1:], text[:place] + sign + text[place:],
                              text[:place] + sign + text[place + 1:]):
                    if plain_read(other) is None:
                        check_refused(self, NoBundle, read_bundle, other)
                    else:
                        self.check_read(other)

    def test_very_long_numbers(self):
        for figures in (5000, 20000):
            check_refused(self, NoBundle, read_bundle, f"hall {'1' * figures} 1 1\n")
            check_refused(self, NoBundle, read_bundle, f"hall 1 1 0{'1' * figures}\n")

    def test_a_refusal_changes_nothing_elsewhere(self):
        hall = read_bundle(SMALL)
        check_refused(self, NoBundle, read_bundle, SMALL + "paint 1 0 16 over\n")
        self.assertEqual(bundle(hall), SMALL)
        self.check_read(SMALL)


class FiguresTest(BundlesCase):
    def test_no_noughts_ahead_but_in_nought(self):
        hall = Hall(12, 11)
        hall.add_paint()
        hall.strength(1, 0)
        hall.touch(1, 10, 10, 0, 16)
        hall.touch(1, 0, 0, 16, 16)
        hall.mask(1, 11, 10, 0)
        self.assertEqual(
            bundle(hall), "hall 12 11 2\npaint 1 0 0 over\ncell 0 0 1/1 1/1\ncell 10 10 0/1 1/1\nmask 11 10 0\n")

    def test_long_fractions_told_again(self):
        u = pair(Fraction(NINES - 2, NINES))
        text = f"hall 4 4 2\npaint 1 0 16 over\ncell 0 0 {u[0]}/{u[1]} 1/1\n"
        hall = self.check_read(text)
        hall.move(1, (0, 0, 1, 1), 3, 3)
        self.assertEqual(bundle(hall), text.replace("cell 0 0", "cell 3 3"))
        self.check_read(bundle(hall))


if __name__ == "__main__":
    unittest.main()
