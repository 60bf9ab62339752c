"""The errors: the heading someobjects/errors.py of the interface."""

import unittest

from someobjects import errors
from someobjects.errors import BadMachine, BadPaper, BadRule, BadText, ObjectError, TooLarge

KINDS = [BadText, BadPaper, BadMachine, BadRule, TooLarge]


class Families(unittest.TestCase):
    def test_all_are_under_object_error_and_value_error(self):
        self.assertTrue(issubclass(ObjectError, ValueError))
        for kind in KINDS:
            self.assertTrue(issubclass(kind, ObjectError), kind)
            self.assertIsNot(kind, ObjectError)

    def test_none_is_under_another_one(self):
        for kind in KINDS:
            for other in KINDS:
                self.assertEqual(issubclass(kind, other), kind is other, (kind, other))

    def test_each_is_defined_here(self):
        for kind in [ObjectError, *KINDS]:
            self.assertEqual(kind.__module__, errors.__name__)


class Attributes(unittest.TestCase):
    def test_at_is_set_on_creation(self):
        for kind in [BadText, BadPaper]:
            for at in [0, 7]:
                self.assertEqual(kind(at).at, at)

    def test_what_is_set_on_creation(self):
        for kind in [BadMachine, BadRule, TooLarge]:
            for what in ["letters", "labels"]:
                self.assertEqual(kind(what).what, what)

    def test_they_can_be_caught_as_object_error(self):
        for error in [BadText(1), BadPaper(2), BadMachine("ends"), BadRule("lets"), TooLarge("sets")]:
            with self.assertRaises(ObjectError):
                raise error


if __name__ == "__main__":
    unittest.main()
