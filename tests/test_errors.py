"""Point [3]: the classes of errors, also those that only later parts raise."""

import inspect
import unittest

from poleslips import errors
from poleslips.errors import (
    Impossible, InvalidCommand, InvalidDrive, InvalidLoads, InvalidNumber, InvalidPlace, InvalidPull, InvalidSightings,
    InvalidStart, InvalidSyntax, InvalidTick, InvalidWheel, NothingToUndo, TooLarge, WheelError,
)

WITH_STRING = [InvalidPull, InvalidPlace, InvalidTick, InvalidNumber, Impossible, NothingToUndo, InvalidCommand]
WITH_FIELD = {
    InvalidWheel: "index", InvalidDrive: "index", InvalidStart: "index", InvalidLoads: "index",
    InvalidSightings: "index", TooLarge: "limit", InvalidSyntax: "word",
}
ALL = WITH_STRING + list(WITH_FIELD)


class Classes(unittest.TestCase):
    def test_the_base_is_a_value_error(self):
        self.assertEqual(WheelError.__bases__, (ValueError,))
        self.assertIsInstance(WheelError("why"), ValueError)

    def test_each_is_a_direct_subclass_of_the_base(self):
        for kind in ALL:
            with self.subTest(kind=kind):
                self.assertEqual(kind.__bases__, (WheelError,))

    def test_names_and_file(self):
        names = [
            "InvalidPull", "InvalidPlace", "InvalidTick", "InvalidNumber", "Impossible", "NothingToUndo",
            "InvalidCommand", "InvalidWheel", "InvalidDrive", "InvalidStart", "InvalidLoads", "InvalidSightings",
            "TooLarge", "InvalidSyntax",
        ]
        self.assertEqual([kind.__name__ for kind in ALL], names)
        for name in names + ["WheelError"]:
            with self.subTest(name=name):
                kind = getattr(errors, name)
                self.assertTrue(inspect.isclass(kind))
                self.assertEqual((kind.__module__, kind.__qualname__), ("poleslips.errors", name))

    def test_an_error_is_of_no_other_class(self):
        objects = [kind("why") for kind in WITH_STRING] + [kind(1) for kind in WITH_FIELD]
        for error in objects:
            with self.subTest(error=type(error)):
                self.assertIsInstance(error, WheelError)
                self.assertIsInstance(error, ValueError)
                self.assertEqual([kind for kind in ALL if isinstance(error, kind)], [type(error)])
        self.assertEqual([kind for kind in ALL if isinstance(WheelError("why"), kind)], [])

    def test_errors_are_raised_and_caught(self):
        for kind in [WheelError] + WITH_STRING:
            for caught in (kind, WheelError, ValueError):
                with self.subTest(kind=kind, caught=caught), self.assertRaises(caught) as told:
                    raise kind("why")
                self.assertIs(type(told.exception), kind)
        for kind in WITH_FIELD:
            for caught in (kind, WheelError, ValueError):
                with self.subTest(kind=kind, caught=caught), self.assertRaises(caught) as told:
                    raise kind(1)
                self.assertIs(type(told.exception), kind)


class Fields(unittest.TestCase):
    def test_one_string_without_fields(self):
        for kind in [WheelError] + WITH_STRING:
            for why in ("why", "", "a longer text, with words"):
                with self.subTest(kind=kind, why=why):
                    self.assertIs(type(kind(why)), kind)

    def test_fields_by_position_and_by_name(self):
        for kind, name in WITH_FIELD.items():
            for value in (0, 1, 7, 60, 10 ** 40, None):
                with self.subTest(kind=kind, value=value):
                    self.assertEqual(getattr(kind(value), name), value)
                    self.assertEqual(getattr(kind(**{name: value}), name), value)

    def test_fields_belong_to_one_object(self):
        for kind, name in WITH_FIELD.items():
            with self.subTest(kind=kind):
                one, other, third = kind(3), kind(None), kind(5)
                self.assertEqual([getattr(error, name) for error in (one, other, third)], [3, None, 5])

    def test_fields_of_a_caught_error(self):
        for kind, name in WITH_FIELD.items():
            with self.subTest(kind=kind), self.assertRaises(kind) as told:
                raise kind(4)
            self.assertEqual(getattr(told.exception, name), 4)


if __name__ == "__main__":
    unittest.main()
