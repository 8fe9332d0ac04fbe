"""The errors of the interface."""

import unittest

from everyfire import errors
from everyfire.errors import (
    EveryfireError, InvalidLand, InvalidNotation, InvalidPaper, InvalidPlan, InvalidQuestion,
    InvalidWeather, NameInUse, NoCut, NothingToRedo, NothingToUndo, UnknownName,
)

PLAIN = [InvalidLand, InvalidWeather, InvalidQuestion, NothingToUndo, NothingToRedo, NoCut]
WITH_ATTRIBUTE = [
    (UnknownName, "name", "hill"), (UnknownName, "name", ""), (InvalidPlan, "number", 3),
    (InvalidNotation, "line", 1), (InvalidPaper, "line", 12), (NameInUse, "name", "l"),
]


def all_errors():
    listed = list(PLAIN)
    for error, _, _ in WITH_ATTRIBUTE:
        if error not in listed:
            listed.append(error)
    return listed


class ErrorsTest(unittest.TestCase):
    def test_all_are_everyfire_errors_and_value_errors(self):
        self.assertTrue(issubclass(EveryfireError, ValueError))
        self.assertEqual(len(all_errors()), 11)
        for error in all_errors():
            with self.subTest(error=error.__name__):
                self.assertTrue(issubclass(error, EveryfireError))

    def test_none_is_a_kind_of_another_one(self):
        for error in all_errors():
            for other in all_errors():
                if error is not other:
                    with self.subTest(error=error.__name__, other=other.__name__):
                        self.assertFalse(issubclass(error, other))

    def test_all_are_defined_in_this_file(self):
        for error in [EveryfireError, *all_errors()]:
            self.assertEqual(error.__module__, errors.__name__)

    def test_attributes(self):
        for error, attribute, worth in WITH_ATTRIBUTE:
            with self.subTest(error=error.__name__):
                with self.assertRaises(error) as caught:
                    raise error(worth)
                self.assertEqual(vars(caught.exception), {attribute: worth})
                self.assertIsInstance(str(caught.exception), str)

    def test_plain_errors_can_be_raised_without_a_message(self):
        for error in PLAIN:
            with self.subTest(error=error.__name__), self.assertRaises(error):
                raise error()


if __name__ == "__main__":
    unittest.main()
