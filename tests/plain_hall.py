"""A hall as a plain table of its deeds: cell by cell, and each rule reckoned anew each time.

It is written down once more from points 30 to 38 of the document, over Python's own Fraction, and draws on nothing of
the program. Its deeds and questions have the names and arguments of the hall's; a tip is handed in by its rows.
"""

import copy
from collections import Counter
from fractions import Fraction
from functools import lru_cache

from helpers import WORDS, exact, inside, pair, pairs, plain_dabs, plain_moved, plain_row, plain_rule, plain_way

BLANK = {"cells": (Fraction(0), Fraction(0)), "mask": 16}
QUIET = ("stand", "let_go")


class Refused(Exception):
    """A refusal, told by the name of its class."""


@lru_cache(maxsize=None)
def rule_of_plans(plans):
    return pairs(plain_rule(plans))


def is_whole(thing):
    return type(thing) is int


def is_sixteenth(thing):
    return is_whole(thing) and 0 <= thing <= 16


def is_word(thing):
    return type(thing) is str and thing in WORDS


def source_of(colour, thickness):
    return (Fraction(colour, 16), Fraction(thickness, 16))


def makes_shade(colour, thickness):
    return is_sixteenth(colour) and is_sixteenth(thickness) and colour <= thickness


def makes_adjusting(gain, lift):
    return is_sixteenth(gain) and is_sixteenth(lift) and gain + lift <= 16


def deepest(rows, row=0, around=0):
    """The greatest number of groups around a layer."""
    return max((max(around, deepest(rows, number, around + 1)) for number in rows.get(row, ())), default=0)


def crowded(rows):
    lengths = [len(row) for row in rows.values()]
    return max(lengths) > 12 or sum(lengths) > 24 or deepest(rows) > 3


def refuse_first(*reasons):
    for name, holds in reasons:
        if holds():
            raise Refused(name)


class PlainHall:
    def __init__(self, wide, high):
        refuse_first(("NoPlace", lambda: not all(is_whole(side) and 1 <= side <= 12 for side in (wide, high))))
        self.size = (wide, high)
        self.layers = {}
        self.rows = {0: []}
        self.following = 1
        self.saved = {}
        self.last_stand = 0
        self.last_key = 0
        self.news = []
        self.last_rules = self.rules()

    def deed(self, name, *things):
        """One deed, with what it tells; the tiles with another rule than ahead of it are kept for told."""
        answer = getattr(self, name)(*things)
        if name not in QUIET:
            before, self.last_rules = self.last_rules, self.rules()
            self.news = sorted({(y // 4, x // 4) for (x, y), rule in before.items() if rule != self.last_rules[(x, y)]})
        return answer

    def every_cell(self):
        return [(x, y) for y in range(self.size[1]) for x in range(self.size[0])]

    def rules(self):
        return {(x, y): self.rule_at(x, y) for x, y in self.every_cell()}

    # Which things are there.

    def is_layer(self, number, *kinds):
        return is_whole(number) and number in self.layers and (not kinds or self.layers[number]["kind"] in kinds)

    def is_row(self, into):
        return is_whole(into) and (into == 0 or self.is_layer(into, "group"))

    def is_cell(self, x, y):
        return is_whole(x) and is_whole(y) and inside((x, y), (0, 0) + self.size)

    def home(self, number):
        return next(into for into, row in self.rows.items() if number in row)

    def all_within(self, number):
        return [number] + [inner for one in self.rows.get(number, ()) for inner in self.all_within(one)]

    # Deeds.

    def rows_with(self, number, into, at):
        """The rows as they would be with this layer there and nowhere else."""
        rows = {one: [other for other in row if other != number] for one, row in self.rows.items()}
        rows[into].insert(at, number)
        return rows

    def is_place(self, number, into, at):
        return is_whole(at) and 0 <= at <= len([one for one in self.rows[into] if one != number])

    def add(self, layer, into, at, *first):
        number = self.following
        refuse_first(
            *first, ("NoLayer", lambda: not self.is_row(into)), ("NoPlace", lambda: not self.is_place(number, into, at)),
            ("TooMany", lambda: crowded(self.rows_with(number, into, at))),
        )
        self.following += 1
        self.rows = self.rows_with(number, into, at)
        self.layers[number] = dict(layer, strength=16, mask={}, cells={}, keys={})
        if layer["kind"] == "group":
            self.rows[number] = []
        return number

    def add_paint(self, word="over", into=0, at=0):
        return self.add({"kind": "paint", "word": word}, into, at, ("NoManner", lambda: not is_word(word)))

    def add_adjust(self, gain, lift, into=0, at=0):
        layer = {"kind": "adjust", "gain": gain, "lift": lift}
        return self.add(layer, into, at, ("NoGain", lambda: not makes_adjusting(gain, lift)))

    def add_group(self, word="over", through=False, into=0, at=0):
        layer = {"kind": "group", "word": word, "through": through}
        return self.add(layer, into, at, ("NoManner", lambda: not is_word(word)))

    def take(self, number):
        refuse_first(("NoLayer", lambda: not self.is_layer(number)))
        self.rows[self.home(number)].remove(number)
        for one in self.all_within(number):
            del self.layers[one]
            self.rows.pop(one, None)

    def shift(self, number, into, at):
        refuse_first(
            ("NoLayer", lambda: not self.is_layer(number) or not self.is_row(into)),
            ("NoPlace", lambda: not self.is_place(number, into, at)),
            ("Within", lambda: into in self.all_within(number)),
            ("TooMany", lambda: crowded(self.rows_with(number, into, at))),
        )
        self.rows = self.rows_with(number, into, at)

    def strength(self, number, m):
        refuse_first(
            ("NoSixteenth", lambda: not is_sixteenth(m)), ("NoLayer", lambda: not self.is_layer(number)))
        self.layers[number]["strength"] = m

    def turn(self, number, word):
        refuse_first(
            ("NoManner", lambda: not is_word(word)), ("NoLayer", lambda: not self.is_layer(number, "paint", "group")))
        self.layers[number]["word"] = word

    def put(self, number, sheet, cell, thing):
        layer = self.layers[number]
        if layer[sheet].get(cell, BLANK[sheet]) == thing:
            return
        layer[sheet][cell] = thing
        spot = (sheet, cell[1] // 4, cell[0] // 4)
        if spot not in layer["keys"] or self.tiles()[layer["keys"][spot]] > 1:
            self.last_key += 1
            layer["keys"][spot] = self.last_key

    def touch(self, number, x, y, colour, thickness):
        refuse_first(
            ("NoShade", lambda: not makes_shade(colour, thickness)),
            ("NoLayer", lambda: not self.is_layer(number, "paint")), ("NoPlace", lambda: not self.is_cell(x, y)))
        self.put(number, "cells", (x, y), source_of(colour, thickness))

    def mask(self, number, x, y, m):
        refuse_first(
            ("NoSixteenth", lambda: not is_sixteenth(m)), ("NoLayer", lambda: not self.is_layer(number)),
            ("NoPlace", lambda: not self.is_cell(x, y)))
        self.put(number, "mask", (x, y), m)

    def stroke(self, number, corners, colour, thickness, tip, every=1, carry=0):
        refuse_first(
            ("NoShade", lambda: not makes_shade(colour, thickness)),
            ("NoLayer", lambda: not self.is_layer(number, "paint")))
        source = source_of(colour, thickness)
        dabbed, carry = plain_dabs(plain_way(corners), every, carry)
        reach = len(tip) // 2
        for x, y in dabbed:
            for down, row in enumerate(tip, -reach):
                for across, weight in enumerate(row, -reach):
                    self.dab(number, (x + across, y + down), tuple(weight * part / 16 for part in source))
        return carry

    def dab(self, number, cell, dabbed):
        if self.is_cell(*cell) and dabbed[1] > self.layers[number]["cells"].get(cell, BLANK["cells"])[1]:
            self.put(number, "cells", cell, dabbed)

    def move(self, number, stretch, across, down):
        refuse_first(("NoLayer", lambda: not self.is_layer(number, "paint")))
        after = plain_moved(dict(self.layers[number]["cells"]), self.size, stretch, across, down)
        for cell in self.every_cell():
            self.put(number, "cells", cell, after.get(cell, BLANK["cells"]))

    def stand(self):
        self.last_stand += 1
        self.saved[self.last_stand] = copy.deepcopy((self.layers, self.rows))
        return self.last_stand

    def is_stand(self, number):
        return is_whole(number) and number in self.saved

    def back(self, number):
        refuse_first(("NoStand", lambda: not self.is_stand(number)))
        self.layers, self.rows = copy.deepcopy(self.saved[number])

    def let_go(self, number):
        refuse_first(("NoStand", lambda: not self.is_stand(number)))
        del self.saved[number]

    # Questions.

    def told(self):
        return self.news

    def order(self, into=0):
        refuse_first(("NoLayer", lambda: not self.is_row(into)))
        return self.rows[into]

    def layer(self, number):
        refuse_first(("NoLayer", lambda: not self.is_layer(number)))
        layer = self.layers[number]
        more = {"paint": ("word",), "adjust": ("gain", "lift"), "group": ("word", "through")}[layer["kind"]]
        return (layer["kind"], self.home(number), layer["strength"]) + tuple(layer[name] for name in more)

    def cell(self, number, x, y):
        refuse_first(("NoLayer", lambda: not self.is_layer(number, "paint")))
        return pairs(self.layers[number]["cells"].get((x, y), BLANK["cells"]))

    def mask_at(self, number, x, y):
        refuse_first(("NoLayer", lambda: not self.is_layer(number)))
        return self.layers[number]["mask"].get((x, y), 16)

    def plan(self, number, x, y):
        layer = self.layers[number]
        m = pair(Fraction(layer["strength"] * self.mask_at(number, x, y), 256))
        if layer["kind"] == "paint":
            return ("paint", layer["word"], m, self.cell(number, x, y))
        if layer["kind"] == "adjust":
            return ("adjust", layer["gain"], layer["lift"], m)
        return ("group", layer["word"], layer["through"], m, self.plans(number, x, y))

    def plans(self, into, x, y):
        return tuple(self.plan(number, x, y) for number in self.rows[into])

    def plan_at(self, x, y):
        return self.plans(0, x, y)

    def rule_at(self, x, y):
        return rule_of_plans(self.plan_at(x, y))

    def show(self, x, y, ground=None):
        """Layer by layer, the lowest first."""
        return pairs(plain_row(self.plan_at(x, y), (0, 0) if ground is None else exact(ground)))

    def stands(self):
        return sorted(self.saved)

    def tiles(self):
        everything = [self.layers] + [layers for layers, rows in self.saved.values()]
        counts = Counter(key for layers in everything for layer in layers.values() for key in layer["keys"].values())
        return dict(sorted(counts.items()))

    # The bundle, row by row.

    def bundle_rows(self, into):
        for number in self.rows[into]:
            kind, home, strength, *more = self.layer(number)
            if kind == "group":
                more[1] = {True: "through", False: "alone"}[more[1]]
            yield " ".join(map(str, [kind, number, home, strength] + more))
            for x, y in self.every_cell():
                if kind == "paint" and self.cell(number, x, y) != ((0, 1), (0, 1)):
                    (s, sixteen), (u, again) = self.cell(number, x, y)
                    yield f"cell {x} {y} {s}/{sixteen} {u}/{again}"
            for x, y in self.every_cell():
                if self.mask_at(number, x, y) != 16:
                    yield f"mask {x} {y} {self.mask_at(number, x, y)}"
            if kind == "group":
                yield from self.bundle_rows(number)

    def bundle(self):
        rows = [f"hall {self.size[0]} {self.size[1]} {self.following}", *self.bundle_rows(0)]
        return "".join(row + "\n" for row in rows)
