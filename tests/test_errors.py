import unittest

from cutrow import errors
from cutrow.errors import BadCuts, BadNumber, BadRow, BadText, CutError


class ErrorClasses(unittest.TestCase):
    def test_cut_error_stands_straight_under_value_error(self):
        self.assertEqual(CutError.__bases__, (ValueError,))

    def test_the_others_stand_straight_under_cut_error(self):
        for kind in (BadRow, BadNumber, BadCuts, BadText):
            with self.subTest(kind=kind.__name__):
                self.assertEqual(kind.__bases__, (CutError,))

    def test_they_are_five_and_bear_their_names(self):
        names = ["CutError", "BadRow", "BadNumber", "BadCuts", "BadText"]
        self.assertEqual(len({getattr(errors, name) for name in names}), 5)
        for name in names:
            self.assertEqual(getattr(errors, name).__name__, name)

    def test_they_can_be_raised_and_taken_as_what_they_stand_under(self):
        for kind in (BadRow, BadNumber, BadCuts, BadText):
            with self.subTest(kind=kind.__name__):
                with self.assertRaises(CutError):
                    raise kind("words")
                with self.assertRaises(ValueError):
                    raise kind("words")


if __name__ == "__main__":
    unittest.main()
