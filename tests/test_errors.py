"""Points 2 and 4: the classes of errors."""

import unittest

from stillinstep import errors
from stillinstep.errors import StillError

# The classes with their arguments, as the interface lists them.
ARGUMENTS = {
    "BadExpression": ("text",), "BadLine": ("line",), "UnknownName": ("line", "name"),
    "TakenName": ("line", "name"), "OutOfBounds": ("line",), "NeedsRule": ("line",), "NoArray": ("name",),
    "TooLong": ("name",), "BadCrew": ("field",), "BadStorm": ("tick",), "Disagree": ("region", "index"),
    "NotEnded": ("most",), "BadTable": ("row",), "BadText": ("line",), "PartOver": (), "NotOver": (),
    "BadRound": (), "HasNotes": (), "EndlessTable": (),
}


class ErrorClasses(unittest.TestCase):
    def test_base_class(self):
        self.assertEqual(StillError.__bases__, (ValueError,))

    def test_every_class_is_derived_directly(self):
        for name in ARGUMENTS:
            with self.subTest(name):
                self.assertEqual(getattr(errors, name).__bases__, (StillError,))

    def test_there_are_no_other_classes(self):
        found = {name for name, value in vars(errors).items() if isinstance(value, type)}
        self.assertEqual(found, {"StillError", *ARGUMENTS})

    def test_classes_are_defined_in_their_file(self):
        for name in ("StillError", *ARGUMENTS):
            self.assertEqual(getattr(errors, name).__module__, "stillinstep.errors")

    def test_fields_by_position_and_by_name(self):
        for name, fields in ARGUMENTS.items():
            values = [f"value {number}" for number in range(len(fields))]
            make = getattr(errors, name)
            for error in (make(*values), make(**dict(zip(fields, values)))):
                with self.subTest(name):
                    self.assertEqual([getattr(error, field) for field in fields], values)
                    self.assertEqual(vars(error), dict(zip(fields, values)))

    def test_wrong_numbers_of_arguments(self):
        for name, fields in ARGUMENTS.items():
            if fields:
                with self.subTest(name), self.assertRaises(TypeError):
                    getattr(errors, name)()

    def test_an_error_belongs_to_no_other_class(self):
        for name, fields in ARGUMENTS.items():
            error = getattr(errors, name)(*range(len(fields)))
            for other in ARGUMENTS:
                with self.subTest(f"{name} {other}"):
                    self.assertEqual(isinstance(error, getattr(errors, other)), name == other)
            self.assertIsInstance(error, StillError)
            self.assertIsInstance(error, ValueError)


if __name__ == "__main__":
    unittest.main()
