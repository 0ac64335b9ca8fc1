"""The error classes of the interface."""

import unittest

from matedsquares import errors

PLAIN = ("InvalidSquare", "InvalidOrder", "InvalidQuestion", "NothingToUndo", "NothingToRedo")
WITH_ATTRIBUTE = {
    "UnknownName": "name",
    "NameInUse": "name",
    "InvalidNotation": "line",
    "InvalidPaper": "line",
    "TooMany": "limit",
}


class ErrorsTest(unittest.TestCase):
    def test_all_are_errors_of_the_program_and_value_errors(self):
        self.assertEqual(errors.MatedsquaresError.__bases__, (ValueError,))
        for name in (*PLAIN, *WITH_ATTRIBUTE):
            kind = getattr(errors, name)
            self.assertEqual(kind.__bases__, (errors.MatedsquaresError,), name)
            self.assertEqual(kind.__module__, "matedsquares.errors")

    def test_plain_ones_take_a_text(self):
        for name in PLAIN:
            with self.assertRaises(errors.MatedsquaresError) as caught:
                raise getattr(errors, name)("why")
            self.assertEqual(str(caught.exception), "why")

    def test_attributes(self):
        for name, attribute in WITH_ATTRIBUTE.items():
            for value in ("some", 17):
                error = getattr(errors, name)(value)
                self.assertEqual(getattr(error, attribute), value)
                self.assertEqual(vars(error), {attribute: value})
                self.assertIsInstance(str(error), str)


if __name__ == "__main__":
    unittest.main()
