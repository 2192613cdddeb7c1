"""Point 1.1: the classes of errors and their fields."""

import unittest

from layerask import errors


class ErrorsTest(unittest.TestCase):
    def test_classes(self):
        self.assertTrue(issubclass(errors.LayeraskError, ValueError))
        for name in ("FieldError", "CircuitError", "TalkError", "TextError", "ProgramError", "SizeError", "CommandError"):
            kind = getattr(errors, name)
            self.assertTrue(issubclass(kind, errors.LayeraskError))
            self.assertIsNot(kind, errors.LayeraskError)

    def test_no_class_is_another_one(self):
        kinds = [errors.FieldError, errors.CircuitError, errors.TalkError, errors.TextError,
                 errors.ProgramError, errors.SizeError, errors.CommandError]
        for kind in kinds:
            self.assertEqual([other for other in kinds if issubclass(kind, other)], [kind])

    def test_fields(self):
        self.assertEqual(errors.FieldError(12).number, 12)
        self.assertEqual(errors.CircuitError("gate").part, "gate")
        self.assertEqual(errors.TalkError("line").step, "line")
        self.assertEqual(errors.TextError(3).line, 3)
        self.assertEqual(errors.SizeError("rows").limit, "rows")
        self.assertEqual(errors.CommandError(7).line, 7)
        error = errors.ProgramError("name", 5)
        self.assertEqual((error.kind, error.line), ("name", 5))

    def test_they_are_raised_and_written(self):
        for error in (errors.FieldError(12), errors.CircuitError("gate"), errors.TalkError("line"), errors.TextError(3),
                      errors.ProgramError("name", 5), errors.SizeError("rows"), errors.CommandError(7)):
            with self.assertRaises(errors.LayeraskError) as caught:
                raise error
            self.assertTrue(str(caught.exception))

    def test_numbers_of_any_length(self):
        error = errors.FieldError(10 ** 6000)
        self.assertEqual(error.number, 10 ** 6000)
        self.assertTrue(str(error))


if __name__ == "__main__":
    unittest.main()
