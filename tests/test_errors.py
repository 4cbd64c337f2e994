"""The error classes of the interface."""

import unittest

from barbreaks import errors
from tests.helpers import ARGUMENTS, REFUSALS


class TestErrors(unittest.TestCase):
    def test_base_classes(self):
        self.assertEqual(errors.BarbreaksError.__bases__, (ValueError,))
        self.assertEqual(errors.Refused.__bases__, (errors.BarbreaksError,))

    def test_each_stands_directly_under_its_base(self):
        for name in ARGUMENTS:
            self.assertEqual(getattr(errors, name).__bases__, (errors.BarbreaksError,), name)
        for name in REFUSALS:
            self.assertEqual(getattr(errors, name).__bases__, (errors.Refused,), name)

    def test_arguments_are_attributes(self):
        for name, words in {**ARGUMENTS, **REFUSALS}.items():
            values = [f"value{at}" for at in range(len(words))]
            error = getattr(errors, name)(*values)
            self.assertEqual([getattr(error, word) for word in words], values, name)

    def test_arguments_stay_what_they_are(self):
        jam = object()
        self.assertIs(errors.Jammed(jam).jam, jam)
        self.assertEqual(errors.BadNumber(-3).number, -3)
        self.assertEqual(errors.BadEvent(("end", "x", 1)).event, ("end", "x", 1))
        self.assertEqual((errors.NotReached(1, 2).point, errors.NotReached(1, 2).moment), (1, 2))

    def test_each_has_its_number_of_arguments(self):
        for name, words in {**ARGUMENTS, **REFUSALS}.items():
            if words:
                self.assertRaises(TypeError, getattr(errors, name), *words, "more")

    def test_caught_as_value_error(self):
        for name, words in {**ARGUMENTS, **REFUSALS}.items():
            with self.assertRaises(ValueError):
                raise getattr(errors, name)(*words)


if __name__ == "__main__":
    unittest.main()
