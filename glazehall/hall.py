"""The hall: a picture of cells with layers laid one over the other, the deeds done to them, and what it shows."""

from glazehall.errors import NoPlace, NoSixteenth, NoStand
from glazehall.layers import new_adjust, new_group, new_paint, tile_of
from glazehall.manners import manner_of
from glazehall.moves import cells_of, lies_in, moved
from glazehall.plans import rule_of_all
from glazehall.rows import Rows
from glazehall.rules import IDENTITY, laid
from glazehall.shades import CLEAR, shade
from glazehall.strokes import dabs, thicker, way
from glazehall.tiles import Store
from glazehall.wholes import is_sixteenth, is_whole

LONGEST_SIDE = 12


def is_side(thing):
    return is_whole(thing) and 1 <= thing <= LONGEST_SIDE


def refuse_no_sixteenth(m):
    if not is_sixteenth(m):
        raise NoSixteenth("a sixteenth is a whole number from 0 to 16")


# The tiles with a cell at which the rules are not the same; a cell without a rule has IDENTITY.
def tiles_between(before, after):
    found = {}
    for cell in list(before) + list(after):
        if before.get(cell, IDENTITY) != after.get(cell, IDENTITY):
            found[tile_of(cell)] = True
    return sorted(found)


class Hall:
    def __init__(self, wide, high):
        if not is_side(wide) or not is_side(high):
            raise NoPlace("a picture has 1 to 12 by 1 to 12 cells")
        self.size = (wide, high)
        self.store = Store()
        self.now = Rows()
        self.next_number = 1
        self.kept_stands = {}
        self.last_stand = 0
        self.news = []

    # Refusals come in the document's order; the first change is made when none is left to come.

    def add_paint(self, word="over", into=0, at=0):
        return self.added(new_paint(self.store, word), into, at)

    def add_adjust(self, gain, lift, into=0, at=0):
        return self.added(new_adjust(self.store, gain, lift), into, at)

    def add_group(self, word="over", through=False, into=0, at=0):
        return self.added(new_group(self.store, word, through), into, at)

    def added(self, layer, into, at):
        number = self.next_number
        self.now.refuse_at(number, into, at)
        self.now.refuse_crowd(number, into)
        self.next_number = number + 1
        self.now.enter(number, layer, into, at)
        self.renew([number], cells_of(self.size))
        return number

    def take(self, number):
        self.now.layer_of(number)
        home = self.now.homes[number]
        cells = list(self.now.known[number])
        self.now.clear_away(number)
        self.renew([home], cells)

    def shift(self, number, into, at):
        self.now.layer_of(number)
        self.now.refuse_at(number, into, at)
        self.now.refuse_within(number, into)
        self.now.refuse_crowd(number, into)
        home = self.now.homes[number]
        self.now.take_up(number)
        self.now.lay(number, into, at)
        self.renew([home, into], list(self.now.known[number]))

    def strength(self, number, m):
        refuse_no_sixteenth(m)
        layer = self.now.layer_of(number)
        layer.power = m
        self.renew([number], cells_of(self.size))

    def turn(self, number, word):
        manner_of(word)
        layer = self.now.worded_of(number)
        layer.manner = word
        self.renew([number], cells_of(self.size))

    def touch(self, number, x, y, colour, thickness):
        source = shade(colour, thickness)
        layer = self.now.paint_of(number)
        self.refuse_outside(x, y)
        layer.shades.put((x, y), source)
        self.renew([number], [(x, y)])

    def mask(self, number, x, y, m):
        refuse_no_sixteenth(m)
        layer = self.now.layer_of(number)
        self.refuse_outside(x, y)
        layer.veil.put((x, y), m)
        self.renew([number], [(x, y)])

    def stroke(self, number, corners, colour, thickness, tip, every=1, carry=0):
        source = shade(colour, thickness)
        shades = self.now.paint_of(number).shades
        dabbed = dabs(way(corners), every, carry)
        touched = {}
        for middle in dabbed[0]:
            for cell, weight in tip.spread(middle):
                if self.is_cell(cell):
                    shades.put(cell, thicker(shades.thing(cell), source, weight))
                    touched[cell] = True
        self.renew([number], list(touched))
        return dabbed[1]

    def move(self, number, stretch, across, down):
        shades = self.now.paint_of(number).shades
        cells = cells_of(self.size)
        before = dict([(cell, shades.thing(cell)) for cell in cells if shades.thing(cell) != CLEAR])
        after = moved(before, self.size, stretch, across, down)
        for cell in cells:
            shades.put(cell, after.get(cell, CLEAR))
        self.renew([number], cells)

    def is_cell(self, cell):
        return lies_in(cell, (0, 0, self.size[0], self.size[1]))

    def refuse_outside(self, x, y):
        if not is_whole(x) or not is_whole(y) or not self.is_cell((x, y)):
            raise NoPlace("the picture has no such cell")

    # All numbers first, then the comparison: behind one of them alone the top row's rule may not be right yet.
    def renew(self, numbers, cells):
        before = dict(self.now.known[0])
        for number in numbers:
            for cell in cells:
                self.now.renew(number, cell)
        self.news = tiles_between(before, self.now.known[0])

    def told(self):
        return list(self.news)

    def order(self, into=0):
        return list(self.now.line_of(into))

    def layer(self, number):
        return self.now.layer_of(number).listed(self.now.homes[number])

    def cell(self, number, x, y):
        return self.now.paint_of(number).shades.thing((x, y))

    def mask_at(self, number, x, y):
        return self.now.layer_of(number).veil.thing((x, y))

    def plan_at(self, x, y):
        return self.now.plans(0, (x, y))

    # Rules are kept for the picture's cells alone.
    def rule_at(self, x, y):
        if self.is_cell((x, y)):
            return self.now.known[0].get((x, y), IDENTITY)
        return rule_of_all(self.plan_at(x, y))

    def show(self, x, y, ground=None):
        return laid(self.rule_at(x, y), CLEAR if ground is None else ground)

    def stand(self):
        self.last_stand = self.last_stand + 1
        self.kept_stands[self.last_stand] = self.now.twin()
        return self.last_stand

    # Python finds True under the number 1; but True is no whole number, and so no stand's.
    def refuse_no_stand(self, number):
        if not is_whole(number) or number not in self.kept_stands:
            raise NoStand("no stand has this number")

    def back(self, number):
        self.refuse_no_stand(number)
        ahead = self.now
        self.now = self.kept_stands[number].twin()
        ahead.leave()
        self.news = tiles_between(ahead.known[0], self.now.known[0])

    def let_go(self, number):
        self.refuse_no_stand(number)
        self.kept_stands.pop(number).leave()

    def stands(self):
        return sorted(self.kept_stands)

    def tiles(self):
        return self.store.counts()
