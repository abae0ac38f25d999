"""Point 34: each deed and question with each reason to refuse it, alone and together with others; nothing changes."""

import itertools
import unittest

from hall_checks import Both, done
from helpers import FORTY

ORDER = ("NoManner", "NoGain", "NoShade", "NoSixteenth", "NoLayer", "NoPlace", "Within", "TooMany")
NO_WORDS = ("", "Over", "OVER", " over", "over ", "overs", "beneath", "adjust", "0", 0, 3, None, True, ("over",), ["over"])
NO_SIXTEENTHS = (-1, 17, 256, FORTY, -FORTY, True, False, None, "3")
NO_SHADES = ((5, 4), (1, 0), (16, 15), (-1, 3), (0, 17), (17, 17), (-2, -1), (True, 5), (0, True), (None, 4), (4, None))
NO_GAINS = ((9, 8), (16, 1), (1, 16), (17, 0), (0, 17), (-1, 5), (5, -1), (True, 5), (5, False), (None, 3), (3, "3"))
DOT = [[16]]

PAINT, ADJUST, GROUP, INNER, DEEP, GONE, GONE_GROUP, GONE_INSIDE = range(1, 9)
NEVER = (9, 10, 99, -1, FORTY, -FORTY, True, None, "1")
WENT = (GONE, GONE_GROUP, GONE_INSIDE)
NO_LAYERS = (0, False) + WENT + NEVER
NO_PAINTS = NO_LAYERS + (ADJUST, GROUP, INNER)
NO_WORDED = NO_LAYERS + (ADJUST,)
NO_ROWS = (PAINT, ADJUST, DEEP, False) + WENT + NEVER
NO_CELLS = ((-1, 0), (0, -1), (5, 0), (0, 4), (5, 4), (99, 0), (0, -FORTY), (FORTY, FORTY), (True, 0), (0, False), (None, 0))
NO_PLACES = (-1, 4, 99, FORTY, -FORTY, True, None, "0")


def some_hall(case):
    """A hall with each kind of layer, groups in groups, layers that went, a stand, shades and masks."""
    both = Both(case, 5, 4)
    for name, things in (
        ("add_paint", ("screen",)), ("add_adjust", (5, 6)), ("add_group", ("under", True)),
        ("add_group", ("over", False, GROUP)), ("add_paint", ("times", INNER)), ("add_paint", ()), ("add_group", ()),
        ("add_paint", ("over", GONE_GROUP)), ("take", (GONE,)), ("take", (GONE_GROUP,)),
        ("touch", (PAINT, 4, 3, 5, 9)), ("touch", (DEEP, 0, 0, 6, 11)), ("mask", (INNER, 4, 3, 7)),
        ("strength", (ADJUST, 3)), ("stand", ()), ("touch", (DEEP, 4, 3, 3, 3)),
    ):
        both.do(name, *things)
    case.assertEqual((both.hall.order(), both.hall.order(GROUP), both.hall.order(INNER)), ([3, 2, 1], [4], [5]))
    return both


class Slot:
    """Some of a deed's arguments: what is done well with them, and for each reason what is refused for it."""

    def __init__(self, well, **wrong):
        self.well = well
        self.wrong = [(reason, things) for reason, many in wrong.items() for things in many]

    def each(self):
        return [(None, self.well)] + self.wrong

    def few(self):
        """The first, one of the middle, and the last: enough where several reasons meet."""
        return [(None, self.well)] + [self.wrong[place] for place in (0, len(self.wrong) // 2, -1)]


def ones(*things):
    return [(thing,) for thing in things]


WORD = Slot(("atop",), NoManner=ones(*NO_WORDS))
GAIN = Slot((3, 4), NoGain=NO_GAINS)
SHADE = Slot((3, 4), NoShade=NO_SHADES)
SIXTEENTH = Slot((5,), NoSixteenth=ones(*NO_SIXTEENTHS))
NUMBER = Slot((PAINT,), NoLayer=ones(*NO_LAYERS))
PAINTED = Slot((PAINT,), NoLayer=ones(*NO_PAINTS))
WORDED = Slot((GROUP,), NoLayer=ones(*NO_WORDED))
INTO = Slot((0,), NoLayer=ones(*NO_ROWS))
PLACE = Slot((3,), NoPlace=ones(*NO_PLACES))
SHIFTED = Slot((2,), NoPlace=ones(-1, 3, 4, 99, FORTY, -FORTY, True, None, "0"))
CELL = Slot((4, 3), NoPlace=NO_CELLS)
THROUGH = Slot((True,), NoPlace=[])
CORNERS = Slot(([(0, 0), (9, 9)],), NoPlace=[])
TIP = Slot((DOT,), NoPlace=[])
STRETCH = Slot(((0, 0, 2, 2), 1, 1), NoPlace=[])
DEEDS = (
    ("add_paint", (WORD, INTO, PLACE)), ("add_adjust", (GAIN, INTO, PLACE)), ("add_group", (WORD, THROUGH, INTO, PLACE)),
    ("take", (NUMBER,)), ("shift", (NUMBER, INTO, SHIFTED)), ("strength", (NUMBER, SIXTEENTH)), ("turn", (WORDED, WORD)),
    ("touch", (PAINTED, CELL, SHADE)), ("mask", (NUMBER, CELL, SIXTEENTH)),
    ("stroke", (PAINTED, CORNERS, SHADE, TIP)), ("move", (PAINTED, STRETCH)),
)


def joined(picked):
    return [thing for reason, things in picked for thing in things]


def first_reason(picked):
    return min((reason for reason, things in picked if reason), key=ORDER.index)


class EachDeedTest(unittest.TestCase):
    def test_each_reason_alone(self):
        both = some_hall(self)
        for name, slots in DEEDS:
            for place, slot in enumerate(slots):
                for wrong in slot.wrong:
                    picked = [(None, one.well) for one in slots]
                    picked[place] = wrong
                    both.refuse(wrong[0], name, *joined(picked))

    def test_several_reasons_the_first_in_order(self):
        both = some_hall(self)
        for name, slots in DEEDS:
            for picked in itertools.product(*[slot.few() if slot.wrong else slot.each() for slot in slots]):
                if len([reason for reason, things in picked if reason]) > 1:
                    both.refuse(first_reason(picked), name, *joined(picked))

    def test_without_a_reason_each_is_done(self):
        for name, slots in DEEDS:
            both = some_hall(self)
            both.do(name, *joined([(None, slot.well) for slot in slots]))

    def test_the_next_layer_bears_the_next_number(self):
        both = some_hall(self)
        both.refuse("NoManner", "add_paint", "no")
        both.refuse("NoPlace", "add_paint", "over", 0, 4)
        both.refuse("NoLayer", "add_group", "over", False, PAINT)
        self.assertEqual(both.do("add_paint"), 9)

    def test_the_edges_of_places_and_cells(self):
        both = some_hall(self)
        for at in range(4):
            both.do("take", both.do("add_paint", "over", 0, at))
        for at in range(2):
            both.do("take", both.do("add_paint", "over", GROUP, at))
        both.refuse("NoPlace", "add_paint", "over", GROUP, 2)
        for at in range(3):
            both.do("shift", PAINT, 0, at)
        both.refuse("NoPlace", "shift", PAINT, GROUP, 2)
        both.do("shift", PAINT, GROUP, 1)
        for x, y in ((0, 0), (4, 0), (0, 3), (4, 3)):
            both.do("touch", PAINT, x, y, 3, 3)
            both.do("mask", PAINT, x, y, 3)

    def test_strokes_and_moves_are_not_refused_for_their_places(self):
        both = some_hall(self)
        both.do("stroke", PAINT, [(-9, -9), (-9, 20)], 3, 4, DOT)
        both.do("move", PAINT, (-9, -9, 2, 2), 99, -99)


class QuestionsTest(unittest.TestCase):
    def test_numbers_that_are_not_there_or_of_another_kind(self):
        both = some_hall(self)
        for number in NO_LAYERS:
            both.refuse("NoLayer", "layer", number)
            both.refuse("NoLayer", "mask_at", number, 0, 0)
        for number in NO_PAINTS:
            both.refuse("NoLayer", "cell", number, 0, 0)
        for number in NO_ROWS:
            both.refuse("NoLayer", "order", number)

    def test_numbers_that_are_there(self):
        both = some_hall(self)
        for number in (PAINT, ADJUST, GROUP, INNER, DEEP):
            self.assertEqual(done(both.hall, "layer", (number,))[0], "told")
            self.assertEqual(done(both.hall, "mask_at", (number, 0, 0))[0], "told")
        for number in (PAINT, DEEP):
            self.assertEqual(done(both.hall, "cell", (number, 0, 0))[0], "told")
        for number in (0, GROUP, INNER):
            self.assertEqual(done(both.hall, "order", (number,))[0], "told")


class WithinTest(unittest.TestCase):
    def nested(self):
        both = Both(self, 1, 1)
        outer = both.do("add_group")
        inner = both.do("add_group", "over", True, outer)
        deep = both.do("add_group", "over", False, inner)
        both.do("touch", both.do("add_paint", "over", deep), 0, 0, 5, 9)
        return both, outer, inner, deep

    def test_a_group_into_itself_or_what_lies_in_it(self):
        both, outer, inner, deep = self.nested()
        for number, into in ((outer, outer), (outer, inner), (outer, deep), (inner, inner), (inner, deep), (deep, deep)):
            for at in range(len(both.plain.rows[into]) + 1):
                both.refuse("Within", "shift", number, into, at)

    def test_a_place_that_is_not_there_comes_first(self):
        both, outer, inner, deep = self.nested()
        for number, into in ((outer, outer), (outer, deep), (deep, deep)):
            for at in (-1, len(both.plain.rows[into]) + 1, 99):
                both.refuse("NoPlace", "shift", number, into, at)

    def test_it_comes_ahead_of_too_many(self):
        both, outer, inner, deep = self.nested()
        for place in range(11):
            both.do("add_paint", "over", deep)
        for number in (outer, inner, deep):
            both.refuse("Within", "shift", number, deep, 0)

    def test_groups_beside_and_around(self):
        both, outer, inner, deep = self.nested()
        other = both.do("add_group")
        both.do("shift", deep, outer, 0)
        both.do("shift", inner, deep, 0)
        both.do("shift", inner, 0, 0)
        both.do("shift", other, inner, 0)
        both.do("shift", other, inner, 0)


class TooManyTest(unittest.TestCase):
    KINDS = (("add_paint", ("over",)), ("add_adjust", (3, 4)), ("add_group", ("over", True)))

    def refuse_each(self, both, into, at):
        for name, things in self.KINDS:
            both.refuse("TooMany", name, *things, into, at)

    def test_in_a_row(self):
        both = Both(self, 1, 1)
        group = both.do("add_group")
        for place in range(11):
            both.do("add_paint")
            both.do("add_adjust", 3, 4, group)
        for at in (0, 6, 12):
            self.refuse_each(both, 0, at)
        both.refuse("NoPlace", "add_paint", "over", 0, 13)
        both.refuse("NoManner", "add_paint", "Over", 0, 0)
        both.do("add_paint", "over", group, 11)
        both.refuse("TooMany", "shift", 2, group, 0)
        both.refuse("NoPlace", "shift", 2, group, 13)
        for at in (0, 11):
            both.do("shift", 2, 0, at)
            both.do("shift", both.hall.order(group)[0], group, at)
        both.refuse("TooMany", "shift", both.hall.order(group)[0], 0, 0)
        both.do("take", 2)
        both.do("shift", both.hall.order(group)[0], 0, 0)

    def test_in_all(self):
        both = Both(self, 1, 1)
        one, other = both.do("add_group"), both.do("add_group")
        for place in range(8):
            both.do("add_paint", "over", one)
            both.do("add_paint", "over", other)
        for place in range(6):
            both.do("add_paint")
        for into in (0, one, other):
            self.refuse_each(both, into, 0)
        both.do("shift", 3, other, 0)
        both.do("shift", 3, 0, 0)
        both.do("take", 5)
        both.do("add_paint", "over", other)
        self.refuse_each(both, one, 0)
        both.do("take", one)
        both.do("add_group", "over", True, other)

    def test_deeper(self):
        both = Both(self, 1, 1)
        groups = [0]
        for step in range(4):
            groups.append(both.do("add_group", "over", step % 2 == 0, groups[-1]))
        self.refuse_each(both, groups[-1], 0)
        paint = both.do("add_paint", "over", groups[3])
        both.refuse("TooMany", "shift", paint, groups[4], 0)
        both.refuse("NoPlace", "shift", paint, groups[4], 1)

    def test_deeper_with_what_lies_in_it(self):
        both = Both(self, 1, 1)
        chain = [0]
        for step in range(3):
            chain.append(both.do("add_group", "over", False, chain[-1]))
        empty = both.do("add_group")
        full = both.do("add_group")
        inside = both.do("add_group", "over", True, full)
        both.do("shift", empty, chain[3], 0)
        both.do("shift", empty, 0, 0)
        both.refuse("TooMany", "shift", full, chain[3], 0)
        both.do("shift", full, chain[2], 0)
        leaf = both.do("add_adjust", 3, 4, full)
        both.refuse("TooMany", "add_paint", "over", inside)
        both.do("shift", full, chain[1], 0)
        paint = both.do("add_paint", "over", inside)
        both.refuse("TooMany", "shift", full, chain[2], 0)
        both.refuse("TooMany", "shift", inside, chain[3], 0)
        both.do("take", paint)
        both.do("shift", inside, chain[3], 0)
        both.refuse("TooMany", "shift", full, chain[3], 0)
        both.do("take", leaf)
        both.do("shift", full, chain[3], 1)

    def test_a_group_around_another_one_shifted(self):
        both = Both(self, 1, 1)
        outer = both.do("add_group")
        middle = both.do("add_group", "over", False, outer)
        both.do("add_paint", "over", middle)
        one = both.do("add_group")
        other = both.do("add_group", "over", False, one)
        both.refuse("TooMany", "shift", outer, other, 0)
        both.do("shift", outer, one, 0)
        both.do("shift", other, middle, 0)
        both.refuse("TooMany", "add_paint", "over", other)

    def test_a_row_of_twelve_shifted_as_a_group(self):
        both = Both(self, 1, 1)
        group, other = both.do("add_group"), both.do("add_group")
        for place in range(12):
            both.do("add_paint", "over", group)
        both.do("shift", group, other, 0)
        both.do("shift", group, 0, 1)


if __name__ == "__main__":
    unittest.main()
