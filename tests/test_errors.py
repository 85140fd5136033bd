"""midswitch/errors.py: base classes and fields."""

import unittest

from midswitch import errors
from samples import any_kind

FIELDS = (
    ("BadSettings", "place"), ("BadStanding", "value"), ("BadStarts", "place"), ("BadSwitches", "place"),
    ("BadPlaces", "place"), ("BadModes", "place"), ("BadRun", "place"), ("BadNode", "place"),
    ("BadPaper", "place"), ("BadWindow", "place"), ("BadPlan", "place"), ("BadText", "line"),
    ("BadNumber", "value"), ("Missing", "name"), ("TooMany", "most"),
)


class ErrorsTest(unittest.TestCase):

    def test_base_classes(self):
        self.assertEqual(errors.SwitchError.__bases__, (ValueError,))
        for name, field in FIELDS[:-2]:
            self.assertEqual(getattr(errors, name).__bases__, (errors.SwitchError,), name)
        self.assertEqual(errors.Missing.__bases__, (LookupError,))
        self.assertEqual(errors.TooMany.__bases__, (OverflowError,))

    def test_each_class_is_defined_here(self):
        for name in ["SwitchError"] + [name for name, field in FIELDS]:
            self.assertEqual(getattr(errors, name).__module__, "midswitch.errors")

    def test_fields_keep_what_was_passed(self):
        for name, field in FIELDS:
            for value in any_kind():
                by_position = getattr(errors, name)(value)
                by_name = getattr(errors, name)(**{field: value})
                self.assertIs(getattr(by_position, field), value, name)
                self.assertIs(getattr(by_name, field), value, name)

    def test_each_takes_just_its_field(self):
        for name, field in FIELDS:
            with self.assertRaises(TypeError):
                getattr(errors, name)()
            with self.assertRaises(TypeError):
                getattr(errors, name)(1, 2)
            with self.assertRaises(TypeError):
                getattr(errors, name)(**{"other": 1})

    def test_they_are_caught_as_their_bases(self):
        with self.assertRaises(errors.SwitchError) as caught:
            raise errors.BadText(3)
        self.assertEqual(caught.exception.line, 3)
        with self.assertRaises(ValueError):
            raise errors.BadNumber("a")
        with self.assertRaises(LookupError):
            raise errors.Missing("a")
        with self.assertRaises(OverflowError):
            raise errors.TooMany(16)


if __name__ == "__main__":
    unittest.main()
