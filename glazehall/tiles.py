"""A store of tiles: rows of sixteen things, each kept under a key as long as somebody has it."""

from glazehall.errors import NoTile
from glazehall.wholes import is_whole


# A thing may hold lists and dicts: what is done to those outside is not to reach the ones kept here.
def copied(thing):
    if isinstance(thing, list):
        return [copied(part) for part in thing]
    if isinstance(thing, tuple):
        return tuple([copied(part) for part in thing])
    if isinstance(thing, dict):
        return dict([(key, copied(thing[key])) for key in thing])
    return thing


class Store:
    def __init__(self):
        self.rows = {}
        self.holders = {}
        self.last_key = 0

    def put(self, things):
        row = [copied(thing) for thing in things]
        self.last_key = self.last_key + 1
        self.rows[self.last_key] = row
        self.holders[self.last_key] = 1
        return self.last_key

    # Python finds True under the key 1; but True is no whole number, and so no key.
    def refuse_unkept(self, key):
        if not is_whole(key) or key not in self.rows:
            raise NoTile("no tile is kept under this key")

    def get(self, key):
        self.refuse_unkept(key)
        return copied(self.rows[key])

    def thing(self, key, place):
        self.refuse_unkept(key)
        return copied(self.rows[key][place])

    def share(self, key):
        self.refuse_unkept(key)
        self.holders[key] = self.holders[key] + 1

    def drop(self, key):
        self.refuse_unkept(key)
        self.holders[key] = self.holders[key] - 1
        if self.holders[key] == 0:
            self.holders.pop(key)
            self.rows.pop(key)

    def count(self, key):
        self.refuse_unkept(key)
        return self.holders[key]

    # The keys rise by themselves: each new one is above all others, and a dict keeps the order in which they came.
    def counts(self):
        return dict(self.holders)

    def changed(self, key, place, thing):
        self.refuse_unkept(key)
        if self.rows[key][place] == thing:
            return key
        if self.holders[key] == 1:
            self.rows[key][place] = copied(thing)
            return key
        things = list(self.rows[key])
        things[place] = thing
        self.drop(key)
        return self.put(things)
