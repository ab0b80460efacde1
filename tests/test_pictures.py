import unittest

from longlife.errors import InvalidPicture
from longlife.patterns import home, moved, picture, read_picture


class ReadPictureTest(unittest.TestCase):
    def check_refused(self, strings, row, column):
        kept = list(strings)
        with self.assertRaises(InvalidPicture) as caught:
            read_picture(strings)
        self.assertIs(type(caught.exception), InvalidPicture)
        self.assertEqual((caught.exception.row, caught.exception.column), (row, column))
        self.assertEqual(strings, kept)

    def test_the_empty_picture_and_empty_strings(self):
        for strings in ([], [""], ["", ""], ["."], ["..", "..", ".."]):
            self.assertEqual(read_picture(strings), [])

    def test_cells_stand_where_the_letters_stand(self):
        self.assertEqual(read_picture(["O"]), [(0, 0)])
        self.assertEqual(read_picture(["..O.", "....", "O..O"]), [(0, 2), (2, 0), (2, 3)])

    def test_a_picture_need_not_be_that_of_a_home_form(self):
        self.assertEqual(read_picture(["....", "..O.", "...."]), [(1, 2)])

    def test_the_passed_list_stays(self):
        strings = [".O", "O."]
        self.assertEqual(read_picture(strings), [(0, 1), (1, 0)])
        self.assertEqual(strings, [".O", "O."])

    def test_the_returned_list_is_a_new_one(self):
        strings = ["O"]
        read_picture(strings).append((5, 5))
        self.assertEqual(read_picture(strings), [(0, 0)])

    def test_the_largest_picture(self):
        self.assertEqual(read_picture(["O" * 200] * 200),
                         [(row, column) for row in range(200) for column in range(200)])

    def test_shorter_strings(self):
        self.check_refused(["OO", "O"], 1, 1)
        self.check_refused(["...", "..O", ""], 2, 0)
        self.check_refused(["...", ".", ".."], 1, 1)

    def test_longer_strings(self):
        self.check_refused(["OO", "OOO"], 1, 2)
        self.check_refused(["", "O"], 1, 0)
        self.check_refused(["", "", "....."], 2, 0)
        self.check_refused(["OO", "OO", "OOOOO", "O"], 2, 2)

    def test_other_characters(self):
        self.check_refused(["x"], 0, 0)
        self.check_refused([".O", "O "], 1, 1)
        self.check_refused(["OO.o", "...."], 0, 3)
        self.check_refused(["..", "0.", "xx"], 1, 0)
        for sign in "oOx 0*!/?\n\t,\u041e\uff0e":
            if sign != "O":
                self.check_refused(["OO.", "O." + sign], 1, 2)

    def test_the_first_of_several_other_characters(self):
        self.check_refused([".x.y"], 0, 1)
        self.check_refused(["....", ".O?x"], 1, 2)

    def test_both_faults_in_one_string(self):
        self.check_refused(["OO", "x"], 1, 0)
        self.check_refused(["....", ".x"], 1, 1)
        self.check_refused(["OO", "OOOx"], 1, 3)
        self.check_refused(["OO", "OxOO"], 1, 1)
        self.check_refused(["", "..x"], 1, 2)

    def test_strings_are_checked_in_order(self):
        self.check_refused(["OO", "O", "xx"], 1, 1)
        self.check_refused(["OO", "xx", "O"], 1, 0)
        self.check_refused(["Ox", "O"], 0, 1)
        self.check_refused(["OO", "OO", "OOO", "x"], 2, 2)
        self.check_refused(["OO", "OO", "Ox", "OOO"], 2, 1)

    def test_the_first_string_gives_the_length(self):
        self.check_refused(["O", "OO", "OO"], 1, 1)
        self.check_refused(["", "OO", "OO"], 1, 0)


class PictureTest(unittest.TestCase):
    def test_the_empty_pattern_has_no_strings(self):
        self.assertEqual(picture([]), [])

    def test_just_the_rows_and_columns_up_to_the_largest_ones(self):
        self.assertEqual(picture([(0, 0)]), ["O"])
        self.assertEqual(picture([(0, 2), (2, 0), (2, 3)]), ["..O.", "....", "O..O"])
        self.assertEqual(picture([(0, 0), (0, 3)]), ["O..O"])
        self.assertEqual(picture([(0, 0), (2, 0)]), ["O", ".", "O"])

    def test_the_home_form_alone_is_shown(self):
        self.assertEqual(picture([(7, 9), (8, 8)]), [".O", "O."])
        self.assertEqual(picture([(-5, -5), (-4, -3)]), ["O..", "..O"])
        self.assertEqual(picture([(2 ** 50, -2 ** 50)]), ["O"])

    def test_any_order_and_repeats(self):
        cells = [(1, 0), (0, 1), (1, 0)]
        self.assertEqual(picture(cells), [".O", "O."])
        self.assertEqual(cells, [(1, 0), (0, 1), (1, 0)])

    def test_the_returned_list_is_a_new_one(self):
        picture([(0, 0)]).append("x")
        picture([]).append("x")
        self.assertEqual(picture([(0, 0)]), ["O"])
        self.assertEqual(picture([]), [])

    def test_reading_leads_back_to_the_home_form(self):
        for cells in ([], [(0, 0)], [(3, 4), (5, 1), (9, 9)], [(-2, 7), (0, -7)]):
            self.assertEqual(read_picture(picture(cells)), home(cells))
            self.assertEqual(picture(moved(cells, 11, -13)), picture(cells))


if __name__ == "__main__":
    unittest.main()
