"""[4]: the refusals and how they stand to one another."""

import unittest

from coverroll import errors
from coverroll.errors import CoverError, Late, NoText, NoWords, Twice

NAMES = (
    "NoAmount", "NoShares", "NoEntry", "NoWords", "TooDeep", "NoClause", "NoCover",
    "NoBook", "Twice", "Late", "NotTold", "TooWide", "NoText", "NoRow",
)
KEPT = {"NoWords": "at", "NoText": "at", "Twice": "number", "Late": "day"}


def made(name):
    refusal = getattr(errors, name)
    return refusal(7) if name in KEPT else refusal("some words")


class TestErrors(unittest.TestCase):
    def test_there_are_fourteen_unlike_classes(self):
        self.assertEqual(len({getattr(errors, name) for name in NAMES}), 14)

    def test_each_is_a_cover_error_and_a_value_error(self):
        for name in NAMES:
            with self.subTest(name=name):
                self.assertIsInstance(made(name), CoverError)
                self.assertIsInstance(made(name), ValueError)
        self.assertTrue(issubclass(CoverError, ValueError))

    def test_each_is_none_of_the_thirteen_others(self):
        for name in NAMES:
            for other in NAMES:
                with self.subTest(name=name, other=other):
                    self.assertEqual(isinstance(made(name), getattr(errors, other)), name == other)

    def test_a_cover_error_by_itself_is_none_of_them(self):
        for name in NAMES:
            with self.subTest(name=name):
                self.assertNotIsInstance(CoverError("some words"), getattr(errors, name))

    def test_each_can_be_raised_and_taken_as_any_refusal(self):
        for name in NAMES:
            with self.subTest(name=name):
                with self.assertRaises(CoverError) as taken:
                    raise made(name)
                self.assertIs(taken.exception.__class__, getattr(errors, name))

    def test_four_keep_what_they_are_made_with(self):
        self.assertEqual(NoWords(0).at, 0)
        self.assertEqual(NoWords(60).at, 60)
        self.assertEqual(NoText(3).at, 3)
        self.assertEqual(Twice(10**9).number, 10**9)
        self.assertEqual(Late(364).day, 364)

    def test_what_is_kept_is_there_when_it_is_taken(self):
        for name, value in KEPT.items():
            with self.subTest(name=name):
                with self.assertRaises(getattr(errors, name)) as taken:
                    raise made(name)
                self.assertEqual(getattr(taken.exception, value), 7)


if __name__ == "__main__":
    unittest.main()
