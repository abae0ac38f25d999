"""Point 2 and the interface: the refusals and how they stand to one another."""

import unittest

from glazehall import errors
from glazehall.errors import HallError

NAMES = (
    "NoFraction", "NoShade", "NoManner", "NoGain", "NoSixteenth", "NoTip", "NoTile",
    "NoLayer", "NoPlace", "Within", "TooMany", "NoStand", "NoBundle",
)


class ErrorsTest(unittest.TestCase):
    def test_there_are_thirteen_refusals_under_the_base(self):
        told = [name for name, thing in vars(errors).items() if isinstance(thing, type) and thing is not HallError]
        self.assertEqual(sorted(told), sorted(NAMES))
        self.assertEqual(len(NAMES), 13)

    def test_the_base_is_a_value_error(self):
        self.assertTrue(issubclass(HallError, ValueError))

    def test_each_refusal_is_a_hall_error_and_a_value_error(self):
        for name in NAMES:
            with self.subTest(name=name):
                refusal = getattr(errors, name)
                self.assertEqual(refusal.__name__, name)
                self.assertTrue(issubclass(refusal, HallError))
                self.assertTrue(issubclass(refusal, ValueError))
                self.assertIsNot(refusal, HallError)

    def test_none_stands_under_another_one(self):
        for name in NAMES:
            for other in NAMES:
                if name != other:
                    with self.subTest(name=name, other=other):
                        self.assertFalse(issubclass(getattr(errors, name), getattr(errors, other)))

    def test_the_base_stands_under_none(self):
        for name in NAMES:
            with self.subTest(name=name):
                self.assertFalse(issubclass(HallError, getattr(errors, name)))

    def test_each_can_be_raised_with_words_and_taken_as_the_base(self):
        for name in NAMES:
            with self.subTest(name=name):
                with self.assertRaises(HallError) as taken:
                    raise getattr(errors, name)("some words")
                self.assertIs(type(taken.exception), getattr(errors, name))
                self.assertEqual(str(taken.exception), "some words")


if __name__ == "__main__":
    unittest.main()
