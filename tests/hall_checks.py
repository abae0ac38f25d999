"""What the tests of halls ask of a hall, and the same deeds done to a hall and to its plain table."""

from glazehall.bundles import bundle
from glazehall.errors import HallError
from glazehall.hall import Hall
from glazehall.strokes import Tip
from helpers import GROUNDS, check_fractions, pairs
from plain_hall import PlainHall, Refused

ALL_GROUNDS = tuple(pairs(ground) for ground in GROUNDS)


def done(hall, name, things):
    """What a deed or a question tells; a refusal by the name of its class."""
    if name == "stroke":
        things = things[:4] + (Tip(things[4]),) + things[5:]
    try:
        return ("told", getattr(hall, name)(*things))
    except HallError as refusal:
        return ("refused", type(refusal).__name__)


def plainly_done(plain, name, things):
    try:
        return ("told", plain.deed(name, *things))
    except Refused as refusal:
        return ("refused", refusal.args[0])


def check_both(case, hall, plain, name, things):
    """That a deed done to both tells the same, and is told of alike."""
    wanted = plainly_done(plain, name, things)
    case.assertEqual(done(hall, name, things), wanted, (name, things))
    case.assertEqual(hall.told(), plain.told(), (name, things))
    return wanted


def check_layers(case, hall, plain):
    for into in plain.rows:
        case.assertEqual(hall.order(into), plain.order(into))
    case.assertEqual(hall.order(), plain.order())
    for number in plain.layers:
        case.assertEqual(hall.layer(number), plain.layer(number))
    for number in range(plain.following - 30, plain.following + 1):
        if number not in plain.layers:
            case.assertEqual(done(hall, "layer", (number,)), ("refused", "NoLayer"))


def check_tiles(case, hall, plain):
    case.assertEqual(list(hall.tiles().items()), list(plain.tiles().items()))
    case.assertEqual(hall.stands(), plain.stands())


def check_things(case, hall, plain):
    """Each shade and each mask."""
    for number, layer in plain.layers.items():
        for x, y in plain.every_cell():
            case.assertEqual(hall.mask_at(number, x, y), plain.mask_at(number, x, y))
            if layer["kind"] == "paint":
                case.assertEqual(hall.cell(number, x, y), plain.cell(number, x, y))


def check_shown(case, hall, plain, grounds):
    for x, y in plain.every_cell():
        case.assertEqual(hall.plan_at(x, y), plain.plan_at(x, y))
        rule = hall.rule_at(x, y)
        check_fractions(case, rule, 5)
        case.assertEqual(rule, plain.rule_at(x, y))
        case.assertEqual(hall.show(x, y), plain.show(x, y))
        for ground in grounds:
            case.assertEqual(hall.show(x, y, ground), plain.show(x, y, ground))


def check_all(case, hall, plain, grounds=()):
    """Everything that a hall tells, but for its bundle."""
    case.assertEqual(hall.told(), plain.told())
    check_layers(case, hall, plain)
    check_tiles(case, hall, plain)
    check_things(case, hall, plain)
    check_shown(case, hall, plain, grounds)


def everything(hall):
    """All that a hall tells, as one value to be held against another one."""
    wide, high = hall.size
    cells = [(x, y) for y in range(high) for x in range(wide)]
    rules = [(hall.rule_at(x, y), hall.plan_at(x, y), hall.show(x, y)) for x, y in cells]
    return (hall.told(), list(hall.tiles().items()), hall.stands(), bundle(hall), rules)


class Both:
    """A hall and its plain table, to which the same deeds are done; all that they tell is held together behind each."""

    def __init__(self, case, wide, high):
        self.case = case
        self.hall = Hall(wide, high)
        self.plain = PlainHall(wide, high)
        check_all(case, self.hall, self.plain)

    def do(self, name, *things):
        wanted = check_both(self.case, self.hall, self.plain, name, things)
        check_all(self.case, self.hall, self.plain)
        self.case.assertEqual(wanted[0], "told", (name, things, wanted))
        return wanted[1]

    def refuse(self, wanted, name, *things):
        before = everything(self.hall)
        self.case.assertEqual(done(self.hall, name, things), ("refused", wanted), (name, things))
        self.case.assertEqual(plainly_done(self.plain, name, things), ("refused", wanted), (name, things))
        self.case.assertEqual(everything(self.hall), before, (name, things))
