"""Tests of sortstretches.errors (points 2 and 3)."""

import inspect
import unittest

from sortstretches import errors
from sortstretches.errors import (
    InvalidCommand, InvalidNumber, InvalidRow, InvalidSize, NothingToUndo, SortError, UnequalSizes,
    Unreadable)

WITH_VALUE = [
    InvalidSize, InvalidCommand, InvalidRow, InvalidNumber, UnequalSizes, NothingToUndo, Unreadable]


class ClassesTest(unittest.TestCase):

    def test_sort_error_is_a_direct_subclass_of_value_error(self):
        self.assertEqual(SortError.__bases__, (ValueError,))

    def test_each_other_class_is_a_direct_subclass_of_sort_error(self):
        for error in WITH_VALUE:
            with self.subTest(error=error):
                self.assertEqual(error.__bases__, (SortError,))

    def test_the_classes_are_these_and_no_others(self):
        classes = [found for _, found in inspect.getmembers(errors, inspect.isclass)]
        self.assertEqual(set(classes), set(WITH_VALUE + [SortError]))
        self.assertEqual({found.__module__ for found in classes}, {"sortstretches.errors"})

    def test_each_class_has_its_own_name(self):
        names = [error.__name__ for error in WITH_VALUE]
        self.assertEqual(names, [
            "InvalidSize", "InvalidCommand", "InvalidRow", "InvalidNumber", "UnequalSizes",
            "NothingToUndo", "Unreadable"])


class ValueTest(unittest.TestCase):

    VALUES = [0, -10 ** 30, 10 ** 5000, None, "3-1", ""]

    def test_the_value_by_position(self):
        for error in WITH_VALUE:
            for value in self.VALUES:
                self.assertIs(error(value).value, value)

    def test_the_value_by_name(self):
        for error in WITH_VALUE:
            for value in self.VALUES:
                self.assertIs(error(value=value).value, value)

    def test_there_is_exactly_one_argument(self):
        for error in WITH_VALUE:
            with self.subTest(error=error):
                self.assertRaises(TypeError, error)
                self.assertRaises(TypeError, error, 1, 2)
                self.assertRaises(TypeError, error, index=1)

    def test_two_errors_do_not_share_their_value(self):
        for error in WITH_VALUE:
            first = error(1)
            second = error(2)
            self.assertEqual([first.value, second.value], [1, 2])

    def test_each_error_can_be_raised_and_caught_by_every_base(self):
        for error in WITH_VALUE:
            for base in (error, SortError, ValueError):
                with self.subTest(error=error, base=base):
                    with self.assertRaises(base) as caught:
                        raise error(7)
                    self.assertEqual(caught.exception.value, 7)

    def test_no_class_catches_another_one(self):
        for error in WITH_VALUE:
            for other in WITH_VALUE:
                self.assertEqual(issubclass(error, other), error is other)


if __name__ == "__main__":
    unittest.main()
