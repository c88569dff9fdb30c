"""The interface, backthen/errors.py: all error classes, their bases and their fields."""

import unittest

from backthen import errors
from tests.helper import ANYTHING

FIELDS = {
    "InvalidTale": "problem",
    "InvalidTimeline": "problem",
    "InvalidTellers": "problem",
    "InvalidReport": "problem",
    "InvalidText": "line",
    "UnknownMoment": "name",
    "InvalidName": "name",
    "Conflict": "ring",
    "OutOfRange": "count",
    "NoFit": "number",
    "Mismatch": "number",
    "InvalidPlace": "index",
    "InvalidAnswer": "first",
}
PLAIN = (
    "NoRoad", "NoConflict", "TooManyTellers", "NothingToUndo",
    "TooLarge", "NotForest", "NothingKnown", "NoQuestion",
)


class ErrorTests(unittest.TestCase):
    def test_base_class(self):
        self.assertEqual(errors.TaleError.__bases__, (ValueError,))

    def test_every_class_derives_from_tale_error(self):
        for name in (*FIELDS, *PLAIN):
            with self.subTest(name):
                made = getattr(errors, name)
                self.assertEqual(made.__bases__, (errors.TaleError,))
                self.assertEqual((made.__name__, made.__module__), (name, "backthen.errors"))

    def test_field_by_position_and_by_name_is_kept_as_it_is(self):
        for name, field in FIELDS.items():
            made = getattr(errors, name)
            for value in ANYTHING:
                with self.subTest(name, value=value):
                    self.assertIs(getattr(made(value), field), value)
                    self.assertIs(getattr(made(**{field: value}), field), value)

    def test_field_may_be_left_out_but_exists(self):
        for name, field in FIELDS.items():
            with self.subTest(name):
                self.assertTrue(hasattr(getattr(errors, name)(), field))

    def test_raised_and_caught_as_tale_error_and_value_error(self):
        for name in (*FIELDS, *PLAIN, "TaleError"):
            for caught in (errors.TaleError, ValueError):
                with self.subTest(name), self.assertRaises(caught):
                    raise getattr(errors, name)()

    def test_classes_without_fields_have_none(self):
        for name in ("TaleError", *PLAIN):
            with self.subTest(name):
                self.assertEqual(vars(getattr(errors, name)()), {})

    def test_objects_do_not_share_their_fields(self):
        one, other = errors.NoFit(1), errors.NoFit(2)
        self.assertEqual((one.number, other.number), (1, 2))


if __name__ == "__main__":
    unittest.main()
