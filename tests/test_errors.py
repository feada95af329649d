"""The errors of the package: their base class and their fields."""

import unittest

from markspass import errors

FIELDS = {
    "BadQuestion": "part", "BadReader": "part", "BadManner": None, "BadPath": None,
    "BadRow": "place", "BadForest": None, "BadNumber": None, "BadWord": None,
    "BadTrap": None, "BadText": "place", "BadLine": "line", "BadStep": None, "TooMany": "most",
}


class Errors(unittest.TestCase):
    def test_base(self):
        self.assertEqual(errors.MarkError.__bases__, (ValueError,))
        self.assertEqual(errors.MarkError.__module__, "markspass.errors")

    def test_all_are_direct_subclasses(self):
        for name in FIELDS:
            with self.subTest(name):
                made = getattr(errors, name)
                self.assertEqual(made.__bases__, (errors.MarkError,))
                self.assertEqual(made.__module__, "markspass.errors")

    def test_no_other_class(self):
        classes = {name for name, value in vars(errors).items() if isinstance(value, type)}
        self.assertEqual(classes, set(FIELDS) | {"MarkError"})

    def test_fields(self):
        for name, field in FIELDS.items():
            made = getattr(errors, name)
            if field is None:
                with self.subTest(name):
                    self.assertEqual(vars(made()), {})
                continue
            for worth in (None, 0, 2000, "steps"):
                with self.subTest(name, worth=worth):
                    self.assertEqual(vars(made(worth)), {field: worth})
                    self.assertEqual(vars(made(**{field: worth})), {field: worth})
                    self.assertIsInstance(str(made(worth)), str)

    def test_a_field_must_be_given(self):
        for name, field in FIELDS.items():
            if field is not None:
                with self.subTest(name), self.assertRaises(TypeError):
                    getattr(errors, name)()

    def test_caught_as_value_error(self):
        for name, field in FIELDS.items():
            with self.subTest(name), self.assertRaises(ValueError):
                raise getattr(errors, name)(*([] if field is None else [0]))
