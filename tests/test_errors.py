"""Point 4 and the heading limitweave/errors.py: which errors there are, under which classes, with which attributes."""

import inspect
import unittest

from limitweave import errors

WITH_MESSAGE = [
    "InvalidName", "InvalidRequest", "InvalidLimit", "InvalidBook", "NoView", "InvalidPaper", "InvalidJournal",
    "TooLarge", "NothingToUndo", "NothingToRedo",
]
WITH_ATTRIBUTE = {
    "UnknownName": "name", "NameTaken": "name", "KeyKnown": "key", "UnknownKey": "key", "EarlierMoment": "moment",
    "InvalidNotation": "line", "InvalidEntry": "number", "UnknownLetter": "number", "HouseFallen": "house",
    "UnknownHouse": "house",
}
VALUES = {"name": "few", "key": "job-1", "moment": 40, "line": 3, "number": 0, "house": "north"}


class ErrorClasses(unittest.TestCase):
    def test_there_are_just_these_classes(self):
        found = {name for name, value in vars(errors).items() if inspect.isclass(value)}
        self.assertEqual(found, {"LimitError"} | set(WITH_MESSAGE) | set(WITH_ATTRIBUTE))

    def test_the_base_class_stands_under_value_error_alone(self):
        self.assertEqual(errors.LimitError.__bases__, (ValueError,))

    def test_each_class_stands_under_limit_error_alone(self):
        for name in WITH_MESSAGE + list(WITH_ATTRIBUTE):
            with self.subTest(name):
                self.assertEqual(getattr(errors, name).__bases__, (errors.LimitError,))

    def test_no_class_catches_another_one(self):
        names = WITH_MESSAGE + list(WITH_ATTRIBUTE)
        for name in names:
            for other in names:
                caught = issubclass(getattr(errors, name), getattr(errors, other))
                self.assertEqual(caught, name == other, (name, other))

    def test_made_with_a_message(self):
        for name in WITH_MESSAGE:
            with self.subTest(name):
                error = getattr(errors, name)("what is wrong")
                self.assertEqual(str(error), "what is wrong")

    def test_each_keeps_its_attribute(self):
        for name, attribute in WITH_ATTRIBUTE.items():
            with self.subTest(name):
                error = getattr(errors, name)(VALUES[attribute])
                self.assertEqual(getattr(error, attribute), VALUES[attribute])
                self.assertIsInstance(str(error), str)

    def test_caught_as_value_error(self):
        for name, attribute in WITH_ATTRIBUTE.items():
            with self.subTest(name), self.assertRaises(ValueError):
                raise getattr(errors, name)(VALUES[attribute])
