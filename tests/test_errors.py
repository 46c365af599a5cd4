"""[2] and [3]: the error classes and the values that they keep."""

import unittest

from helper import ParcelCase
from widestparcels import errors

ATTRIBUTES = {
    "BadNumber": ["what", "value"],
    "BadOrder": ["place"],
    "BadPair": ["place"],
    "BadRow": ["value"],
    "BadPlan": ["state", "reason"],
    "BadPaper": ["place", "reason"],
    "BadFoe": ["state", "number", "reason"],
    "BadText": ["line"],
    "BadDeed": ["place"],
    "TooMany": ["limit"],
    "Impossible": [],
    "Unlike": [],
    "NothingToUndo": [],
}


class ErrorClasses(ParcelCase):
    def test_base_class(self):
        self.assertEqual(errors.ParcelError.__bases__, (ValueError,))

    def test_each_error_derives_directly_from_the_base_class(self):
        for name in ATTRIBUTES:
            with self.subTest(name):
                kind = getattr(errors, name)
                self.assertEqual(kind.__bases__, (errors.ParcelError,))

    def test_no_other_classes(self):
        found = [name for name, value in vars(errors).items() if isinstance(value, type)]
        self.assertEqual(sorted(found), sorted([*ATTRIBUTES, "ParcelError"]))

    def test_each_error_keeps_the_very_values_by_place(self):
        for name, attributes in ATTRIBUTES.items():
            with self.subTest(name):
                values = [[attribute] for attribute in attributes]
                error = getattr(errors, name)(*values)
                self.assertEqual(sorted(vars(error)), sorted(attributes))
                for attribute, value in zip(attributes, values):
                    self.assertIs(getattr(error, attribute), value)

    def test_each_error_keeps_the_very_values_by_name(self):
        for name, attributes in ATTRIBUTES.items():
            with self.subTest(name):
                values = {attribute: [attribute] for attribute in attributes}
                error = getattr(errors, name)(**values)
                for attribute, value in values.items():
                    self.assertIs(getattr(error, attribute), value)

    def test_each_error_takes_just_its_arguments(self):
        for name, attributes in ATTRIBUTES.items():
            if attributes:
                with self.subTest(name):
                    kind = getattr(errors, name)
                    with self.assertRaises(TypeError):
                        kind(*attributes[1:])
                    with self.assertRaises(TypeError):
                        kind(*attributes, "more")

    def test_each_error_is_raised_and_caught_as_the_base_and_as_value_error(self):
        for name, attributes in ATTRIBUTES.items():
            for kind in (errors.ParcelError, ValueError):
                with self.subTest(name):
                    with self.assertRaises(kind):
                        raise getattr(errors, name)(*attributes)

    def test_values_of_any_kind_are_kept(self):
        for value in (True, None, "x", (1, 2), [], {}, 10 ** 5000, slice(0, 1)):
            error = errors.BadNumber("width", value)
            self.assertIs(error.value, value)
            self.assertEqual(error.what, "width")


if __name__ == "__main__":
    unittest.main()
