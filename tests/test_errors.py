"""Tests of the errors [2]."""

import unittest

from heavycut import errors

NAMES = (
    "NoWeb", "NoSide", "NoText", "NoWishes", "NoTurns", "NotFlat", "NoRing", "NoPaper", "NoShare", "NoTie",
    "NoWeight", "NoDeed", "TooGreat",
)


class TestErrors(unittest.TestCase):
    def test_cut_error_is_directly_under_value_error(self):
        self.assertEqual(errors.CutError.__bases__, (ValueError,))

    def test_each_is_directly_under_cut_error(self):
        for name in NAMES:
            self.assertEqual(getattr(errors, name).__bases__, (errors.CutError,), name)

    def test_none_derives_from_another_one(self):
        for name in NAMES:
            for other in NAMES:
                if name != other:
                    self.assertFalse(issubclass(getattr(errors, name), getattr(errors, other)), (name, other))

    def test_they_are_all(self):
        found = {name for name, thing in vars(errors).items() if isinstance(thing, type)}
        self.assertEqual(found, set(NAMES) | {"CutError"})


if __name__ == "__main__":
    unittest.main()
