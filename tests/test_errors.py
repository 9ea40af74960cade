"""Points 1 and 3: the error classes and their fields."""

import unittest

from quietbroom import errors
from quietbroom.errors import QuietError

FIELDS = {
    "BadProgram": ("part", "number", "place", "why"),
    "BadText": ("line", "why"),
    "BadCode": ("at",),
    "Refused": ("number", "why", "walk", "other"),
    "BadArguments": (),
    "BadPicture": ("part", "number", "why"),
    "BadImage": ("line", "why"),
    "NoRoom": ("words",),
    "NoObject": ("number",),
}
VALUES = {
    "part": "shape", "number": 3, "place": -1, "why": "kind", "line": 12, "at": 40,
    "walk": (0, 1, 2), "other": (0, 2), "words": 99,
}


class ErrorsTest(unittest.TestCase):

    def test_bases(self):
        self.assertEqual(QuietError.__bases__, (ValueError,))
        for name in FIELDS:
            self.assertEqual(getattr(errors, name).__bases__, (QuietError,), name)

    def test_there_are_no_other_errors(self):
        own = {name for name, thing in vars(errors).items()
               if isinstance(thing, type) and issubclass(thing, Exception)}
        self.assertEqual(own, {"QuietError", *FIELDS})

    def test_fields_by_place(self):
        for name, fields in FIELDS.items():
            error = getattr(errors, name)(*[VALUES[field] for field in fields])
            self.assertEqual(vars(error), {field: VALUES[field] for field in fields}, name)

    def test_fields_by_name(self):
        for name, fields in FIELDS.items():
            wanted = {field: VALUES[field] for field in reversed(fields)}
            self.assertEqual(vars(getattr(errors, name)(**wanted)), wanted, name)

    def test_wrong_number_of_arguments(self):
        for name, fields in FIELDS.items():
            if fields:
                with self.assertRaises(TypeError):
                    getattr(errors, name)(*[VALUES[field] for field in fields[1:]])

    def test_they_can_be_raised_and_caught(self):
        for name, fields in FIELDS.items():
            with self.assertRaises(QuietError):
                raise getattr(errors, name)(*[VALUES[field] for field in fields])

    def test_walks_are_tuples_of_their_own(self):
        walk, other = [0, 1, 2], [0, 2]
        error = errors.Refused(1, "height", walk, other)
        walk.append(3)
        other.clear()
        self.assertEqual((error.walk, error.other), ((0, 1, 2), (0, 2)))
        self.assertEqual(errors.Refused(0, "end", [0], []).other, ())


if __name__ == "__main__":
    unittest.main()
