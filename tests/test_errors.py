"""[11] and [4]: the errors."""

import unittest

from eithersums import errors
from tests.helpers import any_values

SIGNATURES = {
    "Broken": ("index", "shown"), "Fails": ("setting",), "HasModel": ("bits",), "NoCommand": (), "NoModel": ("paper",),
    "NoText": ("line",), "NotApart": ("one", "other"), "NotFull": ("lot",), "NotKept": ("index",), "NotTight": (),
    "NotWhole": ("bits",), "Nothing": (), "TooMany": ("most",), "Wrong": ("place",),
}


class TestErrors(unittest.TestCase):
    def test_what_is_under_what(self):
        self.assertTrue(issubclass(errors.SumError, ValueError))
        found = {name: getattr(errors, name) for name in SIGNATURES}
        for name, one in found.items():
            self.assertTrue(issubclass(one, errors.SumError), name)
            self.assertFalse(issubclass(errors.SumError, one), name)
            for another, other in found.items():
                self.assertEqual(issubclass(one, other), name == another, (name, another))

    def test_no_other_error_classes(self):
        classes = [thing for thing in vars(errors).values() if isinstance(thing, type)]
        names = sorted([one.__name__ for one in classes if issubclass(one, errors.SumError)])
        self.assertEqual(names, sorted([*SIGNATURES, "SumError"]))

    def test_base_without_arguments(self):
        with self.assertRaises(errors.SumError):
            raise errors.SumError()
        self.assertIsInstance(errors.SumError(), ValueError)

    def test_fields_are_the_objects_themselves(self):
        for name, fields in SIGNATURES.items():
            values = [[name, field] for field in fields]
            error = getattr(errors, name)(*values)
            for field, value in zip(fields, values):
                self.assertIs(getattr(error, field), value, (name, field))

    def test_fields_of_any_values(self):
        for value in any_values():
            for name, fields in SIGNATURES.items():
                error = getattr(errors, name)(*[value for _ in fields])
                for field in fields:
                    self.assertIs(getattr(error, field), value, (name, field))

    def test_two_fields_are_not_one(self):
        broken, apart = errors.Broken(3, "shown"), errors.NotApart(1, 2)
        self.assertEqual((broken.index, broken.shown, apart.one, apart.other), (3, "shown", 1, 2))

    def test_raised_and_caught(self):
        for name, fields in SIGNATURES.items():
            with self.assertRaises(errors.SumError) as caught:
                raise getattr(errors, name)(*fields)
            self.assertIs(caught.exception.__class__, getattr(errors, name))

    def test_other_numbers_of_arguments(self):
        for name, fields in SIGNATURES.items():
            with self.assertRaises(TypeError, msg=name):
                getattr(errors, name)(*fields, 0)
            if fields:
                with self.assertRaises(TypeError, msg=name):
                    getattr(errors, name)(*fields[1:])


if __name__ == "__main__":
    unittest.main()
