"""The refusals: which there are, and of what they are made."""

import unittest

from nearrows import errors

NAMES = (
    "NoShape", "NoRow", "NoNearness", "NoNumber", "NoHeap", "NotCovering", "NoWeights", "NoCounts", "NoMaking",
    "NoMatrix", "NoGoals", "NotNormal", "NoExchange", "TooMany", "NoReason", "NoAnswers", "NoText", "NoSay", "NoName",
)


class Errors(unittest.TestCase):
    def test_near_error_is_a_value_error(self):
        self.assertEqual(errors.NearError.__bases__, (ValueError,))

    def test_each_stands_straight_under_near_error(self):
        for name in NAMES:
            with self.subTest(name=name):
                self.assertEqual(getattr(errors, name).__bases__, (errors.NearError,))

    def test_there_are_no_others_and_they_stand_in_order(self):
        found = [name for name, worth in vars(errors).items() if isinstance(worth, type)]
        self.assertEqual(found, ["NearError", *NAMES])

    def test_made_of_a_text_or_of_nothing(self):
        for name in ("NearError", *NAMES):
            if name == "NotCovering":
                continue
            with self.subTest(name=name):
                kind = getattr(errors, name)
                self.assertIsInstance(kind(), ValueError)
                self.assertEqual(str(kind("some words")), "some words")

    def test_not_covering_bears_its_row(self):
        self.assertEqual(errors.NotCovering((0, 2, 1)).row, (0, 2, 1))
        with self.assertRaises(TypeError):
            errors.NotCovering()

    def test_not_covering_is_caught_with_its_row(self):
        with self.assertRaises(errors.NearError) as caught:
            raise errors.NotCovering((1, 1))
        self.assertEqual(caught.exception.row, (1, 1))


if __name__ == "__main__":
    unittest.main()
