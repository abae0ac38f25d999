"""Points 15 to 17: tiles kept in a store."""

import random
import unittest

from glazehall.errors import NoTile
from glazehall.shades import CLEAR, shade
from glazehall.tiles import Store
from helpers import FORTY, check_refused

ROW = list("abcdefghijklmnop")
NO_KEYS = (
    0, -1, 3, 4, FORTY, -FORTY, True, False, None, "", "1", "2", 1.0, 2.0, (), (1,), [], [1], {}, {1: 1}, object(),
)


def deeds(store):
    """Each deed and question that takes a key."""
    return (
        store.get, store.share, store.drop, store.count,
        lambda key: store.changed(key, 0, "z"), lambda key: store.changed(key, 0, "a"),
        lambda key: store.thing(key, 0),
    )


def shown(store):
    counts = store.counts()
    return (counts, [store.get(key) for key in counts])


class PutTest(unittest.TestCase):
    def test_keys_from_1_on(self):
        store = Store()
        self.assertEqual([store.put(ROW) for step in range(5)], [1, 2, 3, 4, 5])

    def test_each_store_has_its_own_keys_and_tiles(self):
        one = Store()
        other = Store()
        self.assertEqual(one.put(ROW), 1)
        self.assertEqual(other.counts(), {})
        self.assertEqual(other.put(ROW[::-1]), 1)
        self.assertEqual(one.get(1), ROW)
        self.assertEqual(other.get(1), ROW[::-1])

    def test_a_like_tile_is_kept_again(self):
        store = Store()
        first = store.put(ROW)
        second = store.put(ROW)
        self.assertNotEqual(first, second)
        self.assertEqual(store.counts(), {1: 1, 2: 1})
        store.changed(first, 0, "z")
        self.assertEqual(store.get(second), ROW)

    def test_keys_behind_tiles_that_are_gone(self):
        store = Store()
        for step in range(3):
            store.put(ROW)
        store.drop(3)
        self.assertEqual(store.put(ROW), 4)
        for key in (1, 2, 4):
            store.drop(key)
        self.assertEqual(store.counts(), {})
        self.assertEqual(store.put(ROW), 5)

    def test_keys_behind_a_changed_tile_that_is_gone(self):
        store = Store()
        key = store.put(ROW)
        store.share(key)
        self.assertEqual(store.changed(key, 3, "z"), 2)
        store.drop(2)
        self.assertEqual(store.put(ROW), 3)

    def test_of_a_list_and_of_a_tuple(self):
        store = Store()
        of_list = store.put(list(ROW))
        of_tuple = store.put(tuple(ROW))
        for key in (of_list, of_tuple):
            self.assertIs(type(store.get(key)), list)
            self.assertEqual(store.get(key), ROW)
            store.changed(key, 15, "z")
            self.assertEqual(store.get(key), ROW[:15] + ["z"])

    def test_things_of_many_kinds(self):
        store = Store()
        things = [CLEAR, shade(4, 16), 0, 16, -FORTY, "", "a", None, True, False, (), (1, 2), [1], {1: 2}, [[]], ([],)]
        key = store.put(things)
        self.assertEqual(store.get(key), things)
        self.assertEqual([type(thing) for thing in store.get(key)], [type(thing) for thing in things])


class NewListsTest(unittest.TestCase):
    def test_the_list_handed_in_is_not_changed(self):
        store = Store()
        things = list(ROW)
        key = store.put(things)
        store.changed(key, 2, "z")
        store.share(key)
        store.changed(key, 3, "y")
        self.assertEqual(things, ROW)

    def test_the_list_handed_in_changed_behind(self):
        store = Store()
        things = list(ROW)
        key = store.put(things)
        things[0] = "z"
        things.clear()
        self.assertEqual(store.get(key), ROW)

    def test_the_list_told_is_a_new_one_and_may_be_changed(self):
        store = Store()
        key = store.put(ROW)
        told = store.get(key)
        self.assertIsNot(told, store.get(key))
        told[0] = "z"
        told.pop()
        self.assertEqual(store.get(key), ROW)

    def test_a_told_list_is_not_changed_by_later_deeds(self):
        store = Store()
        key = store.put(ROW)
        told = store.get(key)
        store.changed(key, 0, "z")
        self.assertEqual(told, ROW)
        self.assertEqual(store.get(key), ["z"] + ROW[1:])

    def test_the_dict_told_is_a_new_one_and_may_be_changed(self):
        store = Store()
        key = store.put(ROW)
        told = store.counts()
        self.assertIs(type(told), dict)
        self.assertIsNot(told, store.counts())
        told[key] = 9
        told[7] = 1
        self.assertEqual(store.counts(), {1: 1})
        self.assertEqual(store.count(key), 1)
        check_refused(self, NoTile, store.get, 7)
        store.counts().clear()
        self.assertEqual(store.counts(), {1: 1})

    def test_a_told_dict_is_not_changed_by_later_deeds(self):
        store = Store()
        store.put(ROW)
        told = store.counts()
        store.share(1)
        store.put(ROW)
        self.assertEqual(told, {1: 1})

    def test_a_new_tile_and_the_old_one_share_no_list(self):
        store = Store()
        key = store.put(ROW)
        store.share(key)
        new = store.changed(key, 0, "z")
        store.changed(key, 1, "y")
        store.changed(new, 2, "x")
        self.assertEqual(store.get(key), ["a", "y"] + ROW[2:])
        self.assertEqual(store.get(new), ["z", "b", "x"] + ROW[3:])

    def test_lists_and_dicts_among_the_things(self):
        store = Store()
        inner = [1, {2: [3]}]
        key = store.put([inner, (inner,), {4: inner}] + ROW[3:])
        wanted = [[1, {2: [3]}], ([1, {2: [3]}],), {4: [1, {2: [3]}]}] + ROW[3:]
        inner[1][2].append(9)
        inner.append(9)
        self.assertEqual(store.get(key), wanted)
        told = store.get(key)
        told[0].append(9)
        told[1][0][1].clear()
        told[2][4] = 9
        self.assertEqual(store.get(key), wanted)

    def test_a_list_put_by_changed(self):
        for many in (1, 2):
            store = Store()
            key = store.put(ROW)
            if many == 2:
                store.share(key)
            inner = [1]
            key = store.changed(key, 0, inner)
            inner.append(2)
            self.assertEqual(store.get(key), [[1]] + ROW[1:])
            store.get(key)[0].append(3)
            self.assertEqual(store.get(key), [[1]] + ROW[1:])


class ThingTest(unittest.TestCase):
    def test_each_place(self):
        store = Store()
        store.put(ROW)
        store.put(ROW[::-1])
        for place in range(16):
            self.assertEqual((store.thing(1, place), store.thing(2, place)), (ROW[place], ROW[15 - place]))

    def test_behind_a_change(self):
        store = Store()
        store.put(ROW)
        store.share(1)
        self.assertEqual(store.changed(1, 3, "z"), 2)
        self.assertEqual((store.thing(1, 3), store.thing(2, 3), store.thing(2, 2)), ("d", "z", "c"))

    def test_a_list_told_may_be_changed(self):
        store = Store()
        store.put([["a"]] * 16)
        store.thing(1, 0).append("b")
        self.assertEqual(store.thing(1, 0), ["a"])


class CountTest(unittest.TestCase):
    def test_share_and_drop(self):
        store = Store()
        key = store.put(ROW)
        self.assertEqual(store.count(key), 1)
        self.assertIsNone(store.share(key))
        self.assertIsNone(store.share(key))
        self.assertEqual(store.count(key), 3)
        self.assertIsNone(store.drop(key))
        self.assertEqual(store.count(key), 2)
        self.assertIsNone(store.drop(key))
        self.assertEqual(store.count(key), 1)
        self.assertEqual(store.get(key), ROW)
        self.assertIsNone(store.drop(key))
        check_refused(self, NoTile, store.count, key)
        self.assertEqual(store.counts(), {})

    def test_one_tiles_count_is_not_anothers(self):
        store = Store()
        store.put(ROW)
        store.put(ROW)
        store.share(1)
        self.assertEqual(store.counts(), {1: 2, 2: 1})
        store.drop(2)
        self.assertEqual(store.counts(), {1: 2})

    def test_the_keys_of_counts_rise(self):
        store = Store()
        for step in range(12):
            store.put(ROW)
        for key in (3, 1, 12, 7):
            store.share(key)
        for key in (5, 2, 11):
            store.drop(key)
        store.changed(7, 0, "z")
        store.changed(3, 0, "z")
        self.assertEqual(list(store.counts().items()), [
            (1, 2), (3, 1), (4, 1), (6, 1), (7, 1), (8, 1), (9, 1), (10, 1), (12, 2), (13, 1), (14, 1),
        ])


class RefusedTest(unittest.TestCase):
    def test_keys_that_are_not_kept(self):
        store = Store()
        store.put(ROW)
        store.put(ROW[::-1])
        store.share(2)
        before = shown(store)
        for key in NO_KEYS:
            for deed in deeds(store):
                with self.subTest(key=key):
                    check_refused(self, NoTile, deed, key)
                    self.assertEqual(shown(store), before)
        self.assertEqual(store.put(ROW), 3)

    def test_a_key_that_is_gone(self):
        store = Store()
        store.put(ROW)
        store.put(ROW)
        store.drop(1)
        before = shown(store)
        for deed in deeds(store):
            check_refused(self, NoTile, deed, 1)
            self.assertEqual(shown(store), before)
        self.assertEqual(store.put(ROW), 3)

    def test_an_empty_store(self):
        store = Store()
        for deed in deeds(store):
            check_refused(self, NoTile, deed, 1)
        self.assertEqual(store.counts(), {})
        self.assertEqual(store.put(ROW), 1)


class ChangedTest(unittest.TestCase):
    def test_the_thing_that_stands_there_at_count_1(self):
        store = Store()
        key = store.put(ROW)
        for place in range(16):
            self.assertEqual(store.changed(key, place, ROW[place]), key)
        self.assertEqual(shown(store), ({1: 1}, [ROW]))
        self.assertEqual(store.put(ROW), 2)

    def test_the_thing_that_stands_there_at_a_higher_count(self):
        store = Store()
        key = store.put(ROW)
        store.share(key)
        for place in range(16):
            self.assertEqual(store.changed(key, place, ROW[place]), key)
        self.assertEqual(shown(store), ({1: 2}, [ROW]))
        self.assertEqual(store.put(ROW), 2)

    def test_a_like_shade_is_the_thing_that_stands_there(self):
        store = Store()
        key = store.put([shade(4, 16)] + [CLEAR] * 15)
        store.share(key)
        self.assertEqual(store.changed(key, 0, ((1, 4), (1, 1))), key)
        self.assertEqual(store.changed(key, 15, shade(0, 0)), key)
        self.assertEqual(store.counts(), {1: 2})

    def test_another_thing_at_count_1(self):
        store = Store()
        key = store.put(ROW)
        things = list(ROW)
        for place in (0, 15, 7, 0):
            things[place] = ("new", place, things[place])
            self.assertEqual(store.changed(key, place, things[place]), key)
            self.assertEqual(shown(store), ({1: 1}, [things]))

    def test_another_thing_at_a_higher_count(self):
        for place in range(16):
            store = Store()
            key = store.put(ROW)
            store.share(key)
            store.share(key)
            new = store.changed(key, place, "z")
            self.assertEqual(new, 2)
            self.assertEqual(shown(store), ({1: 2, 2: 1}, [ROW, ROW[:place] + ["z"] + ROW[place + 1:]]))

    def test_at_a_place_other_than_where_a_like_thing_stands(self):
        store = Store()
        key = store.put(ROW)
        store.share(key)
        self.assertEqual(store.changed(key, 0, "b"), 2)
        self.assertEqual(store.get(2), ["b"] + ROW[1:])

    def test_again_by_the_other_one_who_has_it(self):
        store = Store()
        key = store.put(ROW)
        store.share(key)
        self.assertEqual(store.changed(key, 0, "z"), 2)
        self.assertEqual(store.count(key), 1)
        self.assertEqual(store.changed(key, 0, "z"), 1)
        self.assertEqual(shown(store), ({1: 1, 2: 1}, [["z"] + ROW[1:]] * 2))

    def test_down_to_1_by_drop(self):
        store = Store()
        key = store.put(ROW)
        store.share(key)
        store.drop(key)
        self.assertEqual(store.changed(key, 4, "z"), key)
        self.assertEqual(store.counts(), {1: 1})


class Plain:
    """A store once more: everyone who has a tile has a list of their own, and so nothing is ever shared."""

    def __init__(self):
        self.tiles = {}
        self.last = 0

    def put(self, things):
        self.last += 1
        self.tiles[self.last] = [list(things)]
        return self.last

    def changed(self, key, place, thing):
        things = list(self.tiles[key][0])
        if things[place] == thing:
            return key
        things[place] = thing
        if len(self.tiles[key]) == 1:
            self.tiles[key] = [things]
            return key
        self.tiles[key].pop()
        return self.put(things)

    def counts(self):
        return {key: len(having) for key, having in self.tiles.items() if having}


class LongRowTest(unittest.TestCase):
    def step(self, chance, store, plain):
        keys = list(plain.counts())
        deed = chance.choice(("put", "share", "drop", "changed", "changed", "changed")) if keys else "put"
        if deed == "put":
            things = [chance.randrange(3) for place in range(16)]
            self.assertEqual(store.put(things), plain.put(things))
            return
        key = chance.choice(keys)
        if deed == "share":
            store.share(key)
            plain.tiles[key].append(plain.tiles[key][0])
        elif deed == "drop":
            store.drop(key)
            plain.tiles[key].pop()
        else:
            place, thing = chance.randrange(16), chance.randrange(3)
            self.assertEqual(store.changed(key, place, thing), plain.changed(key, place, thing))

    def test_rows_of_300_deeds(self):
        for seed in range(20):
            chance = random.Random(seed)
            store, plain = Store(), Plain()
            for number in range(300):
                self.step(chance, store, plain)
                self.assertEqual(list(store.counts().items()), list(plain.counts().items()))
                for key in plain.counts():
                    self.assertEqual(store.get(key), plain.tiles[key][0])
                    self.assertEqual(store.count(key), len(plain.tiles[key]))


if __name__ == "__main__":
    unittest.main()
