"""Layers: paint, layers that only adjust, and groups; each keeps what it has for each cell by tiles of a store."""

from glazehall.fractions import made
from glazehall.manners import adjusted, manner_of
from glazehall.plans import rule_of, rule_of_whole
from glazehall.shades import CLEAR


def tile_of(cell):
    return (cell[1] // 4, cell[0] // 4)


def place_of(cell):
    return cell[1] % 4 * 4 + cell[0] % 4


# One thing for each cell: the blank one, but where another one was put. A tile that was always blank has no key.
class Sheet:
    def __init__(self, store, blank):
        self.store = store
        self.blank = blank
        self.tile_keys = {}

    def thing(self, cell):
        tile = tile_of(cell)
        if tile not in self.tile_keys:
            return self.blank
        return self.store.thing(self.tile_keys[tile], place_of(cell))

    def put(self, cell, thing):
        tile = tile_of(cell)
        if tile in self.tile_keys:
            self.tile_keys[tile] = self.store.changed(self.tile_keys[tile], place_of(cell), thing)
        elif thing != self.blank:
            things = [self.blank] * 16
            things[place_of(cell)] = thing
            self.tile_keys[tile] = self.store.put(things)

    # Another one with the same things, that has each tile together with this one.
    def twin(self):
        other = Sheet(self.store, self.blank)
        other.tile_keys = dict(self.tile_keys)
        for tile in self.tile_keys:
            self.store.share(self.tile_keys[tile])
        return other

    def leave(self):
        for tile in self.tile_keys:
            self.store.drop(self.tile_keys[tile])


# What all layers have in common; the plan and the twin are each kind's own.
class Layer:
    def __init__(self, power, veil):
        self.power = power
        self.veil = veil

    def m_at(self, cell):
        return made(self.power * self.veil.thing(cell), 256)

    # The rule of the layer's own row is handed in, so that no group has to go through all its plans again.
    def rule_by(self, cell, whole):
        return rule_of(self.plan(cell, ()))

    def leave(self):
        self.veil.leave()


class Paint(Layer):
    def __init__(self, power, veil, manner, shades):
        Layer.__init__(self, power, veil)
        self.manner = manner
        self.shades = shades

    def listed(self, into):
        return ("paint", into, self.power, self.manner)

    def plan(self, cell, plans):
        return ("paint", self.manner, self.m_at(cell), self.shades.thing(cell))

    def twin(self):
        return Paint(self.power, self.veil.twin(), self.manner, self.shades.twin())

    def leave(self):
        self.veil.leave()
        self.shades.leave()


class Adjust(Layer):
    def __init__(self, power, veil, gain, lift):
        Layer.__init__(self, power, veil)
        self.gain = gain
        self.lift = lift

    def listed(self, into):
        return ("adjust", into, self.power, self.gain, self.lift)

    def plan(self, cell, plans):
        return ("adjust", self.gain, self.lift, self.m_at(cell))

    def twin(self):
        return Adjust(self.power, self.veil.twin(), self.gain, self.lift)


class Group(Layer):
    def __init__(self, power, veil, manner, through):
        Layer.__init__(self, power, veil)
        self.manner = manner
        self.through = through

    def listed(self, into):
        return ("group", into, self.power, self.manner, self.through)

    def plan(self, cell, plans):
        return ("group", self.manner, self.through, self.m_at(cell), plans)

    def rule_by(self, cell, whole):
        return rule_of_whole(self.manner, self.through, self.m_at(cell), whole)

    def twin(self):
        return Group(self.power, self.veil.twin(), self.manner, self.through)


# What is no word, or no gain and lift, is refused here; the layer itself keeps them as they are.
def new_paint(store, word):
    manner_of(word)
    return Paint(16, Sheet(store, 16), word, Sheet(store, CLEAR))


def new_adjust(store, gain, lift):
    adjusted(gain, lift)
    return Adjust(16, Sheet(store, 16), gain, lift)


def new_group(store, word, through):
    manner_of(word)
    return Group(16, Sheet(store, 16), word, through)
