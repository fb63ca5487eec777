"""Point 20: the errors and their fields."""

import unittest

from endchecks import errors
from tests.samples import ODD

FIELDS = {
    "Wrong": "place", "TooMany": "limit", "Full": "limit", "BadRule": "at", "BadRow": "ident", "NoRow": "ident",
    "Taken": "ident", "BadStatement": "address", "Twice": "handle", "Unput": "handle", "NoPlace": "address",
    "Broken": "rule", "Illegal": "rule",
}
BARE = ["Unfit", "NoDeed", "Nothing", "NoText", "NoCommand"]


class ErrorsTest(unittest.TestCase):
    def test_check_error_is_a_value_error(self):
        self.assertEqual(errors.CheckError.__bases__, (ValueError,))

    def test_each_is_a_direct_subclass(self):
        for name in [*FIELDS, *BARE]:
            self.assertEqual(getattr(errors, name).__bases__, (errors.CheckError,), name)
            self.assertEqual(getattr(errors, name).__module__, "endchecks.errors")

    def test_check_error_takes_any_number_of_values_and_has_no_fields(self):
        for values in [(), (1,), ([], {}, None), tuple(ODD)]:
            error = errors.CheckError(*values)
            self.assertEqual(vars(error), {})

    def test_fields_keep_the_very_object(self):
        for name, field in FIELDS.items():
            for thing in [*ODD, [1, [2]], {"a": []}]:
                error = getattr(errors, name)(thing)
                self.assertIs(getattr(error, field), thing)
                self.assertEqual(list(vars(error)), [field])

    def test_fields_are_the_parameters(self):
        for name, field in FIELDS.items():
            self.assertEqual(getattr(getattr(errors, name)(**{field: 7}), field), 7)

    def test_those_without_fields(self):
        for name in BARE:
            self.assertEqual(vars(getattr(errors, name)()), {})

    def test_wrong_number_of_values(self):
        for name in FIELDS:
            self.assertRaises(TypeError, getattr(errors, name))
            self.assertRaises(TypeError, getattr(errors, name), 1, 2)
        for name in BARE:
            self.assertRaises(TypeError, getattr(errors, name), 1)


if __name__ == "__main__":
    unittest.main()
