"""Points 4 and 30 to 37: drawn rows of deeds of every kind, each held against the plain table of the deeds."""

import random
import unittest

from glazehall.hall import Hall
from drawn_deeds import Drawn
from hall_checks import ALL_GROUNDS, check_all, check_both, check_layers, check_tiles, done, everything
from helpers import FORTY, some_shade
from plain_hall import PlainHall

LONG = ((10 ** 39, FORTY), (10 ** 39 + 1, FORTY))


class DrawnTest(unittest.TestCase):
    def drawn(self, seed, size, many, full, wrong=0.03):
        """A hall and its table behind so many deeds; everything is held together behind each one of a few."""
        chance = random.Random(seed)
        hall, plain = Hall(*size), PlainHall(*size)
        drawn = Drawn(chance, plain, wrong)
        for step in range(many):
            check_both(self, hall, plain, *drawn.deed())
            check_layers(self, hall, plain)
            check_tiles(self, hall, plain)
            if step % full == full - 1:
                check_all(self, hall, plain, [some_shade(chance)])
        check_all(self, hall, plain, ALL_GROUNDS + (some_shade(chance), LONG))
        return hall, plain

    def test_small_pictures_looked_at_behind_each_deed(self):
        for seed, size in enumerate(((1, 1), (2, 1), (1, 3), (4, 4), (5, 1), (3, 5), (2, 2), (1, 1))):
            with self.subTest(seed=seed, size=size):
                self.drawn(seed, size, 120, 1)

    def test_some_hundred_deeds(self):
        for seed, size in enumerate(((5, 5), (9, 2), (3, 12)), start=100):
            with self.subTest(seed=seed, size=size):
                self.drawn(seed, size, 300, 10)

    def test_large_pictures(self):
        for seed, size in enumerate(((12, 12), (11, 9), (12, 5)), start=200):
            with self.subTest(seed=seed, size=size):
                self.drawn(seed, size, 60, 20)

    def test_deeds_of_which_many_are_refused(self):
        for seed in range(300, 304):
            chance = random.Random(seed)
            hall, plain = Hall(3, 5), PlainHall(3, 5)
            drawn = Drawn(chance, plain, 0.15)
            for step in range(200):
                before = everything(hall)
                wanted = check_both(self, hall, plain, *drawn.deed())
                if wanted[0] == "refused":
                    self.assertEqual(everything(hall), before)
            check_all(self, hall, plain)

    def test_what_was_asked_ahead_changes_nothing(self):
        for seed in range(400, 404):
            asked, never, plain = Hall(4, 5), Hall(4, 5), PlainHall(4, 5)
            drawn = Drawn(random.Random(seed), plain)
            for step in range(120):
                name, things = drawn.deed()
                check_both(self, asked, plain, name, things)
                everything(asked)
                done(never, name, things)
            self.assertEqual(everything(never), everything(asked))

    def test_back_to_each_stand(self):
        for seed in range(500, 503):
            hall, plain = Hall(6, 5), PlainHall(6, 5)
            drawn = Drawn(random.Random(seed), plain, 0)
            kept = {}
            for step in range(15):
                for deed in range(8):
                    check_both(self, hall, plain, *drawn.deed())
                check_both(self, hall, plain, "stand", ())
                kept[hall.stands()[-1]] = everything(hall)[4]
            for number in sorted(hall.stands(), key=lambda one: one % 4):
                check_both(self, hall, plain, "back", (number,))
                check_tiles(self, hall, plain)
                if number in kept:
                    self.assertEqual(everything(hall)[4], kept[number])
            for number in hall.stands():
                check_both(self, hall, plain, "let_go", (number,))
                check_tiles(self, hall, plain)
            check_all(self, hall, plain)
            self.assertEqual(set(hall.tiles().values()) - {1}, set())


if __name__ == "__main__":
    unittest.main()
