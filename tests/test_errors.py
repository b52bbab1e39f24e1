"""The errors: their names, their base class and their fields."""

import inspect
import unittest

from sameontrees import errors

WITHOUT_FIELDS = (
    "BadKinds", "BadKind", "BadTree", "BadRows", "TooGreat", "BadProgram", "BadName", "BadForm",
    "BadVector", "BadMatrix", "Singular", "Unlike", "BadContext", "NotLeast", "BadLog",
    "BadRewriter", "BadLimit", "HasNumbers",
)
WITH_FIELD = {"NotChecked": "what", "BadText": "place", "NotSame": "part", "NotLet": "index"}


class Errors(unittest.TestCase):

    def test_tree_error_is_directly_under_value_error(self):
        self.assertEqual(errors.TreeError.__bases__, (ValueError,))

    def test_each_error_is_directly_under_tree_error(self):
        for name in (*WITHOUT_FIELDS, *WITH_FIELD):
            error = getattr(errors, name)
            self.assertEqual(error.__bases__, (errors.TreeError,), name)
            self.assertEqual(error.__module__, "sameontrees.errors")

    def test_there_are_no_other_errors(self):
        found = {name for name, _ in inspect.getmembers(errors, inspect.isclass)}
        self.assertEqual(found, {"TreeError", *WITHOUT_FIELDS, *WITH_FIELD})

    def test_errors_without_fields_are_made_with_one_text(self):
        for name in ("TreeError", *WITHOUT_FIELDS):
            self.assertIn("some words", str(getattr(errors, name)("some words")))

    def test_errors_with_a_field_are_made_with_it_alone(self):
        for name, field in WITH_FIELD.items():
            error = getattr(errors, name)
            for value in (0, 7, None, ("double", "sum"), ("size", (("Leaf", ()),), (3, 1), (2, 1))):
                self.assertEqual(getattr(error(value), field), value)
                self.assertEqual(getattr(error(**{field: value}), field), value)
            with self.assertRaises(TypeError):
                error()
            with self.assertRaises(TypeError):
                error(1, 2)

    def test_an_error_is_caught_as_any_error(self):
        for name in (*WITHOUT_FIELDS, *WITH_FIELD):
            with self.assertRaises(errors.TreeError):
                raise getattr(errors, name)("x")


if __name__ == "__main__":
    unittest.main()
