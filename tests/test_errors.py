import unittest

from bitlead import errors

NAMES = ("Uneven", "Unhalved", "Lost", "BadRow")


class Errors(unittest.TestCase):
    def test_lead_error_stands_under_value_error(self):
        self.assertEqual(errors.LeadError.__bases__, (ValueError,))

    def test_each_stands_straight_under_lead_error(self):
        for name in NAMES:
            self.assertEqual(getattr(errors, name).__bases__, (errors.LeadError,), name)

    def test_none_stands_under_another(self):
        for one in NAMES:
            for other in NAMES:
                if one != other:
                    self.assertFalse(issubclass(getattr(errors, one), getattr(errors, other)), (one, other))

    def test_those_made_with_words_tell_them(self):
        self.assertEqual(str(errors.Uneven("some words")), "some words")
        self.assertEqual(str(errors.Unhalved("some words")), "some words")
        self.assertEqual(str(errors.LeadError("some words")), "some words")

    def test_lost_has_its_place(self):
        for place in (0, 1, 63):
            error = errors.Lost(place)
            self.assertEqual(error.place, place)
            self.assertIn(str(place), str(error))
            with self.assertRaises(errors.LeadError):
                raise error

    def test_bad_row_has_its_row(self):
        for row in (0, 1, 99):
            error = errors.BadRow(row)
            self.assertEqual(error.row, row)
            self.assertIn(str(row), str(error))
            with self.assertRaises(errors.LeadError):
                raise error


if __name__ == "__main__":
    unittest.main()
