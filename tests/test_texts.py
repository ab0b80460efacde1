import random
import re
import unittest

from longlife.errors import InvalidText
from longlife.patterns import home, moved, read_picture, read_text, write_text

KNOWN = [
    ([], "!"),
    (["O"], "O!"),
    (["OO"], "2O!"),
    (["O.O"], "O.O!"),
    (["O..O"], "O2.O!"),
    (["O", "O"], "O/O!"),
    (["O", ".", "O"], "O2/O!"),
    (["O", ".", ".", ".", "O"], "O4/O!"),
    ([".O.", "..O", "OOO"], ".O/2.O/3O!"),
    (["OO...", ".....", "...OO"], "2O2/3.2O!"),
    (["O" * 12], "12O!"),
    (["O" + "." * 100 + "O"], "O100.O!"),
    ([".O", "O."], ".O/O!"),
    (["OO", "OO"], "2O/2O!"),
]


def plain_text(cells):
    """The run text of a home form that is not empty, written row by row and cell by cell."""
    rows = [row for row, _ in cells]
    columns = [column for _, column in cells]
    lines = []
    for row in range(max(rows) + 1):
        line = "".join("O" if (row, column) in cells else "." for column in range(max(columns) + 1))
        lines.append(line.rstrip("."))
    signs = "/".join(lines) + "!"
    text = ""
    while signs:
        sign = signs[0]
        length = len(signs) - len(signs.lstrip(sign))
        text += (str(length) if length > 1 else "") + sign
        signs = signs[length:]
    return text


RUN = "(?:[2-9]|[1-9][0-9]+)?[O./]"


def is_run_text(string):
    """Whether a string is the run text of a home form, by the look of its signs alone."""
    if string == "!":
        return True
    if not re.fullmatch(f"(?:{RUN})+!", string):
        return False
    signs = "".join(sign for sign in string[:-1] if sign in "O./")
    doubled = any(sign + sign in signs for sign in "O./")
    loose_end = "./" in signs or signs[-1] != "O" or signs[0] == "/"
    return not doubled and not loose_end and any(line.startswith("O") for line in signs.split("/"))


class WriteTextTest(unittest.TestCase):
    def test_known_texts(self):
        for strings, text in KNOWN:
            self.assertEqual(write_text(read_picture(strings)), text)

    def test_the_text_is_that_of_the_home_form(self):
        for strings, text in KNOWN:
            cells = read_picture(strings)
            self.assertEqual(write_text(moved(cells, -8, 15)), text)
            self.assertEqual(write_text(moved(cells, 2 ** 50, -2 ** 50)), text)

    def test_any_order_and_repeats(self):
        cells = [(1, 0), (0, 1), (1, 0)]
        self.assertEqual(write_text(cells), ".O/O!")
        self.assertEqual(cells, [(1, 0), (0, 1), (1, 0)])

    def test_places_far_from_each_other(self):
        far = 2 ** 50
        self.assertEqual(write_text([(-far, 0), (far, 0)]), f"O{2 * far}/O!")
        self.assertEqual(write_text([(0, -far), (0, far)]), f"O{2 * far - 1}.O!")
        self.assertEqual(write_text([(0, far), (1, -far)]), f"{2 * far}.O/O!")

    def test_against_a_plain_writing(self):
        chance = random.Random(4)
        for _ in range(300):
            height, width = chance.randrange(1, 8), chance.randrange(1, 8)
            cells = [(chance.randrange(height), chance.randrange(width)) for _ in range(chance.randrange(1, 20))]
            self.assertEqual(write_text(cells), plain_text(home(cells)))


class ReadTextTest(unittest.TestCase):
    def check_refused(self, *strings):
        for string in strings:
            with self.subTest(string=string):
                with self.assertRaises(InvalidText) as caught:
                    read_text(string)
                self.assertIs(type(caught.exception), InvalidText)

    def test_known_texts(self):
        for strings, text in KNOWN:
            self.assertEqual(read_text(text), read_picture(strings))

    def test_large_numbers(self):
        self.assertEqual(read_text("999O!"), [(0, column) for column in range(999)])
        self.assertEqual(read_text("O999.O999/O!"), [(0, 0), (0, 1000), (999, 0)])
        self.assertEqual(read_text("10O!"), [(0, column) for column in range(10)])

    def test_reading_and_writing_lead_back(self):
        chance = random.Random(5)
        for _ in range(300):
            height, width = chance.randrange(1, 9), chance.randrange(1, 9)
            cells = [(chance.randrange(height), chance.randrange(width)) for _ in range(chance.randrange(20))]
            self.assertEqual(read_text(write_text(cells)), home(cells))
        for text in ("!", "3.O/O10.3O12/O!", "2.O3/O!", "O." * 149 + "O!"):
            self.assertEqual(write_text(read_text(text)), text)

    def test_the_returned_list_is_a_new_one(self):
        read_text("O!").append((5, 5))
        read_text("!").append((5, 5))
        self.assertEqual((read_text("O!"), read_text("!")), ([(0, 0)], []))

    def test_the_first_column_may_be_reached_in_any_row(self):
        self.assertEqual(read_text(".O/O!"), [(0, 1), (1, 0)])
        self.assertEqual(read_text("2.O2/.O/O!"), [(0, 2), (2, 1), (3, 0)])

    def test_numbers_0_and_1_and_zeros_ahead(self):
        self.check_refused("0O!", "O0.O!", "O0/O!", "0!", "O0!", "00O!", "O0.!", "0.O!", "0/O!")
        self.check_refused("1O!", "O1.O!", "O1/O!", "1!", "O1!")
        self.check_refused("02O!", "002O!", "O02.O!", "O02/O!", "01O!", "O03.O!", "010O!")

    def test_equal_runs_side_by_side(self):
        self.check_refused("OO!", "O2O!", "2OO!", "2O2O!", "O..O!", "O2..O!", "O2.2.O!", "O.2.O!")
        self.check_refused("O//O!", "O/2/O!", "O2//O!", "O2/2/O!", "O///O!")

    def test_dead_cells_at_the_end_of_a_row(self):
        self.check_refused("O.!", "O2.!", "O./O!", "O3./O!", "O/O.!", "O/./O!", "O/3./O!")

    def test_a_row_end_first_or_last(self):
        self.check_refused("/O!", "2/O!", "/!", "2/!", "O/!", "O2/!", "O/O/!", "/O/!", "/.O/O!")

    def test_a_first_row_or_column_without_a_living_cell(self):
        self.check_refused("./O!", "2./O!", ".O!", "3.O!", ".O/.O!", "2.O/.O!", ".O2/.O!", ".!", "2.!")

    def test_a_missing_mark(self):
        self.check_refused("", "O", "2O", "O/O", ".", "/", "2", "O/", "O.")

    def test_two_marks_or_something_behind_the_mark(self):
        self.check_refused("!!", "O!!", "O!O!", "2!", "O2!", "!O!", "!O", "O!O", "O!.", "O!/", "O!2", "O!x", "O! ", "O!\n",
                           "O!/O!", "O/O!/")

    def test_a_number_at_the_end(self):
        self.check_refused("O2", "O/O2", "O!2", "2", "O2!", "!2", "12")

    def test_other_characters(self):
        self.check_refused("o!", "x!", " O!", "O !", "O! ", "O!\n", "\nO!", "O\n/O!", "O$O!", "O|O!", "0x2O!", "2*O!",
                           "-2O!", "+2O!", "2 O!", "O,O!", "xO!", "Ox!", "O\t!", "2bO!", "bO!", " ", "x", "\n")
        self.check_refused("\u0662O!", "\u00b2O!", "\uff12O!", "2\u0662O!", "\u041e!")

    def test_every_short_string(self):
        strings = [""]
        valid = 0
        for _ in range(6):
            strings = [string + sign for string in strings for sign in "O./!012"]
            for string in strings:
                try:
                    self.assertEqual(write_text(read_text(string)), string)
                    held = True
                except InvalidText:
                    held = False
                self.assertEqual(held, is_run_text(string), string)
                valid += held
        self.assertGreater(valid, 50)


if __name__ == "__main__":
    unittest.main()
