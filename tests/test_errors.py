"""The refusals: their classes, and what they carry."""

import unittest

from canonwright import errors
from canonwright.errors import Broken, CanonError, NoRule, NoVoice

NAMES = ("NoHouse", "NoVoice", "NoRule", "Broken", "TooMany", "NoNumber", "Unlike", "NoText", "NoRow", "NoNote")
MADE_OF_A_VALUE = ("NoVoice", "NoRule", "Broken")


def made(name):
    kind = getattr(errors, name)
    return kind(1) if name in MADE_OF_A_VALUE else kind("words")


class Kinds(unittest.TestCase):
    def test_any_refusal_is_a_value_error(self):
        self.assertEqual(CanonError.__bases__, (ValueError,))

    def test_each_stands_straight_under_the_one(self):
        for name in NAMES:
            with self.subTest(name=name):
                self.assertEqual(getattr(errors, name).__bases__, (CanonError,))

    def test_each_is_taken_by_its_own_name_alone(self):
        for name in NAMES:
            for other in NAMES:
                with self.subTest(name=name, other=other):
                    self.assertEqual(isinstance(made(name), getattr(errors, other)), name == other)

    def test_each_is_taken_as_the_one_and_as_a_value_error(self):
        for name in NAMES:
            for kind in (CanonError, ValueError):
                with self.subTest(name=name, kind=kind):
                    with self.assertRaises(kind):
                        raise made(name)

    def test_they_are_made_without_words_too(self):
        for name in NAMES:
            if name not in MADE_OF_A_VALUE:
                with self.subTest(name=name):
                    self.assertIsInstance(getattr(errors, name)(), CanonError)


class Fields(unittest.TestCase):
    def test_number(self):
        for kind in (NoVoice, NoRule):
            for number in (0, 1, 7):
                with self.subTest(kind=kind, number=number):
                    self.assertEqual(kind(number).number, number)

    def test_first(self):
        self.assertEqual(Broken((3, 0, (0, 1))).first, (3, 0, (0, 1)))


if __name__ == "__main__":
    unittest.main()
