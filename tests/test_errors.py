import unittest

from longlife.errors import InvalidPicture, InvalidRule, InvalidText, LifeError


class ErrorsTest(unittest.TestCase):
    def test_each_error_derives_as_the_interface_says(self):
        self.assertEqual(LifeError.__bases__, (ValueError,))
        for error in (InvalidRule, InvalidText, InvalidPicture):
            self.assertEqual(error.__bases__, (LifeError,))

    def test_a_picture_error_has_its_row_and_column(self):
        error = InvalidPicture(3, 7)
        self.assertEqual((error.row, error.column), (3, 7))
        error = InvalidPicture(row=0, column=200)
        self.assertEqual((error.row, error.column), (0, 200))

    def test_the_other_errors_have_no_attributes(self):
        self.assertEqual(vars(InvalidRule("why")), {})
        self.assertEqual(vars(InvalidText("why")), {})


if __name__ == "__main__":
    unittest.main()
