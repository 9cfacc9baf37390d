"""Promise 1: the errors, their fields and what they stand under."""

import unittest

from holestore import errors

PLAIN = ["BadStanding", "BadInputs", "BadNumber", "BadPlace", "BadBook", "BadSlide", "NoWay", "BadString"]


class Errors(unittest.TestCase):

    def test_store_error_stands_under_value_error(self):
        self.assertTrue(issubclass(errors.StoreError, ValueError))

    def test_errors_without_fields(self):
        for name in PLAIN:
            with self.subTest(name=name):
                error = getattr(errors, name)
                self.assertTrue(issubclass(error, errors.StoreError))
                self.assertIsInstance(error(), errors.StoreError)

    def test_fields(self):
        self.assertEqual(errors.BadYard("ties").part, "ties")
        self.assertEqual(errors.BadYard(part="gate").part, "gate")
        self.assertEqual(errors.BadProgram(3).index, 3)
        self.assertIsNone(errors.BadProgram(index=None).index)
        self.assertEqual(errors.BadLine(2, 1).line, 2)
        self.assertEqual(errors.BadLine(2, 1).place, 1)
        self.assertEqual(errors.BadLine(line=2, place=1).place, 1)
        self.assertEqual(errors.TooMany(6000).most, 6000)
        self.assertEqual(errors.TooMany(most=600).most, 600)

    def test_errors_with_fields_stand_under_store_error(self):
        for error in [errors.BadYard, errors.BadProgram, errors.BadLine, errors.TooMany]:
            with self.subTest(error=error):
                self.assertTrue(issubclass(error, errors.StoreError))

    def test_no_error_stands_under_another_of_them(self):
        for name in PLAIN + ["BadYard", "BadProgram", "BadLine", "TooMany"]:
            with self.subTest(name=name):
                self.assertEqual(getattr(errors, name).__bases__, (errors.StoreError,))


if __name__ == "__main__":
    unittest.main()
