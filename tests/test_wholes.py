"""Point 2: what a whole number is, and what a sixteenth."""

import unittest

from glazehall.wholes import is_sixteenth, is_whole

OTHER_KINDS = (True, False, None, "", "1", "16", 1.0, 0.0, (), (1,), [], [1], {}, {1: 1}, b"1", 1j, object())


class WholesTest(unittest.TestCase):
    def test_whole_numbers_of_any_size_and_sign(self):
        for number in (0, 1, -1, 16, 17, 10 ** 40, -10 ** 40, 10 ** 5000):
            self.assertIs(is_whole(number), True)

    def test_truths_and_other_kinds_are_no_whole_numbers(self):
        for thing in OTHER_KINDS:
            with self.subTest(thing=thing):
                self.assertIs(is_whole(thing), False)

    def test_sixteenths_go_from_0_to_16(self):
        for number in range(-40, 60):
            with self.subTest(number=number):
                self.assertIs(is_sixteenth(number), number in range(17))
        for number in (10 ** 40, -10 ** 40, 10 ** 5000, -10 ** 5000):
            self.assertIs(is_sixteenth(number), False)

    def test_truths_and_other_kinds_are_no_sixteenths(self):
        for thing in OTHER_KINDS:
            with self.subTest(thing=thing):
                self.assertIs(is_sixteenth(thing), False)


if __name__ == "__main__":
    unittest.main()
