"""The paragraph on errors in the interface."""

import unittest

from wishroads import errors


class Errors(unittest.TestCase):

    def test_bases(self):
        self.assertEqual(errors.PlanError.__bases__, (ValueError,))
        for name in ("BadTask", "BadState", "BadDeed", "BadPlan", "BadFacts", "BadNumber", "BadText", "TooMany",
                     "NothingBack"):
            self.assertEqual(getattr(errors, name).__bases__, (errors.PlanError,), name)

    def test_fields(self):
        self.assertEqual(errors.BadTask("form").word, "form")
        self.assertEqual(errors.BadDeed(3).index, 3)
        self.assertIsNone(errors.BadDeed(None).index)
        self.assertEqual(errors.BadText(0).line, 0)
        self.assertEqual(errors.TooMany(14).most, 14)

    def test_a_field_is_the_one_argument(self):
        for kind in (errors.BadTask, errors.BadDeed, errors.BadText, errors.TooMany):
            with self.assertRaises(TypeError):
                kind()
            with self.assertRaises(TypeError):
                kind(1, 2)

    def test_others_take_no_argument(self):
        for kind in (errors.BadState, errors.BadPlan, errors.BadFacts, errors.BadNumber, errors.NothingBack):
            self.assertIsInstance(kind(), errors.PlanError)
            with self.assertRaises(TypeError):
                kind(1)


if __name__ == "__main__":
    unittest.main()
