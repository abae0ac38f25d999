"""Deeds drawn by chance for a hall: most of them such as are done, some such as are refused."""

from helpers import WORDS

KINDS = ("paint", "adjust", "group")
NO_WORDS = ("", "Over", "beneath", "over ", 3, None, True, ("over",))
NO_NUMBERS = (0, -1, 99, 10 ** 39, True, None)
NO_SIXTEENTHS = (-1, 17, 10 ** 39, True, "5", None)
BUILDING = ("add_paint", "add_paint", "add_paint", "add_adjust", "add_group", "add_group")
OTHERS = (
    "take", "shift", "shift", "strength", "turn", "touch", "touch", "touch", "mask", "mask", "stroke", "stroke", "move",
    "stand", "back", "let_go",
)


class Drawn:
    """What is drawn for one hall, by its plain table; a share of all things drawn is such as is refused."""

    def __init__(self, chance, plain, wrong=0.03):
        self.chance = chance
        self.plain = plain
        self.wrong = wrong

    def goes_wrong(self):
        return self.chance.random() < self.wrong

    def word(self):
        return self.chance.choice(NO_WORDS if self.goes_wrong() else WORDS)

    def number(self, *kinds):
        found = [one for one, layer in self.plain.layers.items() if layer["kind"] in kinds]
        if self.goes_wrong() or not found:
            return self.chance.choice(NO_NUMBERS + tuple(range(1, self.plain.following + 1))[-30:])
        return self.chance.choice(found)

    def into(self):
        return self.chance.choice((0, 0, self.number("group"), self.number("group")))

    def at(self, into):
        most = len(self.plain.rows.get(into, ())) if into is not None else 0
        return self.chance.choice((-1, most + 1, 99, None)) if self.goes_wrong() else self.chance.randint(0, most)

    def sixteenth(self):
        if self.goes_wrong():
            return self.chance.choice(NO_SIXTEENTHS)
        return self.chance.choice((0, 16, self.chance.randrange(17), self.chance.randrange(17)))

    def two_sixteenths(self):
        """A colour and a thickness."""
        if self.goes_wrong():
            return self.chance.choice(((5, 4), (-1, 3), (3, 17), (16, 0), (True, 4)))
        thickness = self.chance.choice((0, 16, self.chance.randrange(17)))
        return (self.chance.randrange(thickness + 1), thickness)

    def gain_and_lift(self):
        if self.goes_wrong():
            return self.chance.choice(((9, 8), (-1, 3), (3, -1), (17, 0), (0, 17), (True, 4), (4, None)))
        gain = self.chance.choice((16, self.chance.randrange(17)))
        return (gain, self.chance.randint(0, 16 - gain))

    def cell(self):
        wide, high = self.plain.size
        if self.goes_wrong():
            return self.chance.choice(((-1, 0), (0, -1), (wide, 0), (0, high), (99, 99), (True, 0)))
        return (self.chance.randrange(wide), self.chance.randrange(high))

    def near_cell(self):
        """A cell of the picture, or somewhat beyond it."""
        wide, high = self.plain.size
        return (self.chance.randint(-3, wide + 2), self.chance.randint(-3, high + 2))

    def tip(self):
        rows = self.chance.choice((1, 1, 3, 5))
        weights = (0, 0, 16, self.chance.randrange(17), self.chance.randrange(17))
        return [[self.chance.choice(weights) for place in range(rows)] for row in range(rows)]

    def things_of(self, name):
        if name == "add_paint":
            into = self.into()
            return (self.word(), into, self.at(into))
        if name == "add_adjust":
            into = self.into()
            return self.gain_and_lift() + (into, self.at(into))
        if name == "add_group":
            into = self.into()
            return (self.word(), self.chance.choice((True, False)), into, self.at(into))
        if name == "shift":
            into = self.into()
            return (self.number(*KINDS), into, self.at(into))
        if name in ("take", "strength"):
            return (self.number(*KINDS),) + (() if name == "take" else (self.sixteenth(),))
        if name == "turn":
            return (self.number("paint", "group"), self.word())
        return self.other_things_of(name)

    def other_things_of(self, name):
        if name == "touch":
            return (self.number("paint"),) + self.cell() + self.two_sixteenths()
        if name == "mask":
            return (self.number(*KINDS),) + self.cell() + (self.sixteenth(),)
        if name == "stroke":
            corners = [self.near_cell() for corner in range(self.chance.randint(1, 4))]
            every = self.chance.randint(1, 5)
            things = (self.number("paint"), corners) + self.two_sixteenths() + (self.tip(),)
            return things + self.chance.choice(((), (every,), (every, self.chance.randrange(every))))
        if name == "move":
            stretch = self.near_cell() + (self.chance.randint(1, 9), self.chance.randint(1, 9))
            return (self.number("paint"), stretch, self.chance.randint(-6, 6), self.chance.randint(-6, 6))
        if name == "stand":
            return ()
        found = sorted(self.plain.saved)
        return (self.chance.choice(found) if found and not self.goes_wrong() else self.chance.choice(NO_NUMBERS),)

    def deed(self):
        """A name and the things handed in; in a hall of few layers more often one that puts a layer in."""
        few = len(self.plain.layers) < self.chance.choice((3, 8, 20))
        name = self.chance.choice(BUILDING if few and self.chance.random() < 0.6 else OTHERS)
        if name == "take" and self.chance.random() < 0.5:
            name = "touch"
        if name == "stand" and len(self.plain.saved) >= 20:
            name = "let_go"
        return (name, self.things_of(name))
