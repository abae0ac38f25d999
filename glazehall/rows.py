"""Rows of layers: which layers there are, the row in which each of them lies, and the rules kept for them."""

from glazehall.errors import NoLayer, NoPlace, TooMany, Within
from glazehall.layers import Adjust, Group, Paint
from glazehall.rules import IDENTITY, behind
from glazehall.wholes import is_whole

MOST_IN_ROW = 12
MOST_IN_ALL = 24
MOST_AROUND = 3


class Rows:
    def __init__(self):
        self.stack = {}
        self.homes = {}
        self.lines = {0: []}
        # For each layer, and for the top row under 0, its rule at each cell; IDENTITY where none is kept.
        self.known = {0: {}}

    # Python finds True under the number 1; but True is no whole number, and so no layer's.
    def layer_of(self, number):
        if not is_whole(number) or number not in self.stack:
            raise NoLayer("no layer has this number")
        return self.stack[number]

    def paint_of(self, number):
        layer = self.layer_of(number)
        if not isinstance(layer, Paint):
            raise NoLayer("this layer is no paint layer")
        return layer

    def worded_of(self, number):
        layer = self.layer_of(number)
        if isinstance(layer, Adjust):
            raise NoLayer("this layer has no manner")
        return layer

    def line_of(self, into):
        if not is_whole(into) or into not in self.lines:
            raise NoLayer("no row has this number: a row is 0 or a group's")
        return self.lines[into]

    # The row as it is for a layer that is yet to be put there, wherever it lies now.
    def others(self, number, into):
        return [one for one in self.line_of(into) if one != number]

    # The row is asked for first: that there is none comes ahead of all that may be wrong with the place.
    def refuse_at(self, number, into, at):
        most = len(self.others(number, into))
        if not is_whole(at) or at < 0 or at > most:
            raise NoPlace("the row has no such place")

    def inside(self, number):
        found = [number]
        for one in self.lines.get(number, []):
            found.extend(self.inside(one))
        return found

    def refuse_within(self, number, into):
        if into in self.inside(number):
            raise Within("a group doesn't lie in itself")

    def groups_around(self, into):
        many = 0
        while into != 0:
            many = many + 1
            into = self.homes[into]
        return many

    def groups_inside(self, number):
        return max([1 + self.groups_inside(one) for one in self.lines.get(number, [])], default=0)

    def refuse_crowd(self, number, into):
        if len(self.others(number, into)) >= MOST_IN_ROW:
            raise TooMany("too many layers in a row")
        if len([one for one in self.stack if one != number]) >= MOST_IN_ALL:
            raise TooMany("too many layers in all")
        if self.groups_around(into) + self.groups_inside(number) > MOST_AROUND:
            raise TooMany("a layer in too many groups")

    def enter(self, number, layer, into, at):
        self.stack[number] = layer
        self.known[number] = {}
        if isinstance(layer, Group):
            self.lines[number] = []
        self.lay(number, into, at)

    def lay(self, number, into, at):
        self.lines[into].insert(at, number)
        self.homes[number] = into

    def take_up(self, number):
        self.lines[self.homes[number]].remove(number)

    def clear_away(self, number):
        self.take_up(number)
        for one in self.inside(number):
            self.stack.pop(one).leave()
            self.homes.pop(one)
            self.lines.pop(one, None)
            self.known.pop(one)

    def plans(self, into, cell):
        line = self.lines.get(into, [])
        return tuple([self.stack[number].plan(cell, self.plans(number, cell)) for number in line])

    # Where no rule is kept there is IDENTITY, which puts nothing to a product.
    def product(self, into, cell):
        whole = IDENTITY
        for number in self.lines.get(into, []):
            if cell in self.known[number]:
                whole = behind(whole, self.known[number][cell])
        return whole

    # Makes the kept rule anew; tells whether it is another one now.
    def renew_one(self, number, cell):
        rule = self.product(number, cell)
        if number != 0:
            rule = self.stack[number].rule_by(cell, rule)
        known = self.known[number]
        if known.get(cell, IDENTITY) == rule:
            return False
        known[cell] = rule
        if rule == IDENTITY:
            known.pop(cell)
        return True

    # What lies around a layer has another rule only where the layer itself has.
    def renew(self, number, cell):
        while self.renew_one(number, cell) and number != 0:
            number = self.homes[number]

    # From the last layer on, so that all that lies in a group comes ahead of it, and the top row last.
    def renew_all(self, cells):
        for number in reversed(self.inside(0)):
            for cell in cells:
                self.renew_one(number, cell)

    def twin(self):
        other = Rows()
        other.stack = dict([(number, self.stack[number].twin()) for number in self.stack])
        other.homes = dict(self.homes)
        other.lines = dict([(into, list(self.lines[into])) for into in self.lines])
        other.known = dict([(number, dict(self.known[number])) for number in self.known])
        return other

    def leave(self):
        for number in self.stack:
            self.stack[number].leave()
