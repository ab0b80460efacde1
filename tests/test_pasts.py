"""Points 17 and 18: pasts of targets, and cells of targets that fail in cases."""

import itertools
import random
import unittest

from longlife.pasts import fails, is_past
from longlife.rules import Rule, read_rule
from plain import RULES, picture_cells, plain_next, plainly_fails, random_picture, random_rule

SIZES = [(1, 1), (1, 2), (2, 1), (1, 5), (5, 1), (2, 3), (3, 3), (4, 2), (5, 5)]


def shown(cells, height, width):
    """The picture of the rows 1 to height and the columns 1 to width."""
    alive = set(cells)
    return ["".join("O" if (row, column) in alive else "." for column in range(1, width + 1))
            for row in range(1, height + 1)]


def frame(height, width, rows):
    """The cells around a picture of this size, in so many rows and columns."""
    return [(row, column) for row in range(-rows, height + rows) for column in range(-rows, width + rows)
            if not (0 <= row < height and 0 <= column < width)]


def with_one_flipped(chance, target):
    row = chance.randrange(len(target))
    column = chance.randrange(len(target[0]))
    sign = "." if target[row][column] == "O" else "O"
    return [signs[:column] + sign + signs[column + 1:] if at == row else signs for at, signs in enumerate(target)]


class IsPastTest(unittest.TestCase):
    def check_past(self, chance, rule, past):
        """The plain rule gives the one target that a picture is a past of."""
        height, width = len(past) - 2, len(past[0]) - 2
        cells = picture_cells(past)
        target = shown(plain_next(cells, rule.births, rule.survival), height, width)
        around = frame(height + 2, width + 2, 2)
        self.assertEqual(shown(plain_next(cells + around, rule.births, rule.survival), height, width), target)
        some = [cell for cell in around if chance.randrange(2)]
        self.assertEqual(shown(plain_next(cells + some, rule.births, rule.survival), height, width), target)
        self.assertIs(is_past(target, rule, past), True)
        self.assertIs(is_past(with_one_flipped(chance, target), rule, past), False)

    def test_random_pictures_against_the_plain_rule(self):
        chance = random.Random(17)
        for rule in [read_rule(text) for text in RULES] + [random_rule(chance) for _ in range(10)]:
            for height, width in SIZES:
                for signs in (".O", "...O", ".OOO"):
                    self.check_past(chance, rule, random_picture(chance, height + 2, width + 2, signs))

    def test_all_pasts_of_one_cell(self):
        for text in ("B3/S23", "B1/S8", "B8/S0", "B/S"):
            rule = read_rule(text)
            for signs in itertools.product(".O", repeat=9):
                line = "".join(signs)
                count = line.count("O") - (line[4] == "O")
                later = count in (rule.survival if line[4] == "O" else rule.births)
                past = [line[:3], line[3:6], line[6:]]
                self.assertIs(is_past(["O"], rule, past), later)
                self.assertIs(is_past(["."], rule, past), not later)

    def test_each_single_wrong_cell_is_seen(self):
        rule = read_rule("B3/S23")
        past = [".......", ".......", "..OOO..", ".......", "......."]
        target = ["..O..", "..O..", "..O.."]
        self.assertIs(is_past(target, rule, past), True)
        for row in range(3):
            for column in range(5):
                wrong = [list(signs) for signs in target]
                wrong[row][column] = "." if wrong[row][column] == "O" else "O"
                self.assertIs(is_past(["".join(signs) for signs in wrong], rule, past), False)

    def test_cells_around_the_target_do_not_matter(self):
        # The past itself gives birth to cells beside the target, and lets its own edge die.
        rule = read_rule("B3/S23")
        self.assertIs(is_past(["."], rule, ["OOO", "...", "OOO"]), True)
        self.assertIs(is_past(["O"], rule, ["OOO", "...", "..."]), True)
        self.assertIs(is_past(["O"], rule, ["...", "...", "..."]), False)

    def test_the_arguments_stay_as_they_are(self):
        target, past = ["O."], ["OOO.", "....", "...."]
        is_past(target, read_rule("B3/S23"), past)
        self.assertEqual((target, past), (["O."], ["OOO.", "....", "...."]))

    def test_somewhat_beyond_the_limits(self):
        chance = random.Random(1717)
        for height, width in ((6, 6), (7, 5), (1, 12)):
            self.check_past(chance, read_rule("B3/S23"), random_picture(chance, height + 2, width + 2, ".O"))


class FailsTest(unittest.TestCase):
    def check_fails(self, target, rule, case, row, column):
        nine = tuple(case.get((row + down, column + beside)) for down in range(3) for beside in range(3))
        expected = plainly_fails(rule.births, rule.survival, target[row][column] == "O", nine)
        self.assertIs(fails(target, rule, case, row, column), expected)
        return expected

    def check_all_cells(self, target, rule, case):
        return [self.check_fails(target, rule, case, row, column)
                for row in range(len(target)) for column in range(len(target[0]))]

    def test_each_cell_of_random_targets_in_random_cases(self):
        chance = random.Random(18)
        found = []
        for rule in [read_rule(text) for text in RULES] + [random_rule(chance) for _ in range(8)]:
            for height, width in SIZES:
                target = random_picture(chance, height, width, ".O")
                cells = [(row, column) for row in range(height + 2) for column in range(width + 2)]
                for said in (0, 20, 50, 80, 100):
                    case = {cell: chance.random() < chance.choice((0.2, 0.5, 0.9)) for cell in cells
                            if chance.randrange(100) < said}
                    found.extend(self.check_all_cells(target, rule, case))
        self.assertGreater(found.count(True), 1000)
        self.assertGreater(found.count(False), 1000)

    def test_all_cases_of_one_cell(self):
        # Only how many neighbours are said to be alive or dead counts, so these are all the cases there are.
        for text in ("B3/S23", "B12345678/S012345678", "B1234567/S", "B/S", "B8/S0", "B1357/S02468"):
            rule = read_rule(text)
            for middle in (None, False, True):
                for alive in range(9):
                    for dead in range(9 - alive):
                        around = [True] * alive + [False] * dead + [None] * (8 - alive - dead)
                        nine = around[:4] + [middle] + around[4:]
                        case = {divmod(at, 3): state for at, state in enumerate(nine) if state is not None}
                        self.check_fails(["O"], rule, case, 0, 0)
                        self.check_fails(["."], rule, case, 0, 0)

    def test_against_all_pictures_of_the_size_of_a_past(self):
        chance = random.Random(1818)
        cells = [(row, column) for row in range(3) for column in range(4)]
        for _ in range(12):
            rule = random_rule(chance)
            target = random_picture(chance, 1, 2, ".O")
            case = {cell: chance.randrange(2) == 1 for cell in cells if chance.randrange(12) < 9}
            free = [cell for cell in cells if cell not in case]
            shows = [[], []]
            for states in itertools.product((False, True), repeat=len(free)):
                alive = {**case, **dict(zip(free, states))}
                later = plain_next([cell for cell in cells if alive[cell]], rule.births, rule.survival)
                for column in range(2):
                    shows[column].append(((1, column + 1) in later) == (target[0][column] == "O"))
            for column in range(2):
                self.assertIs(fails(target, rule, case, 0, column), not any(shows[column]))

    def test_only_the_nine_cells_count(self):
        rule = read_rule("B3/S23")
        target = ["...", ".O.", "..."]
        cells = [(row, column) for row in range(5) for column in range(5)]
        outside = {cell: False for cell in cells if not (1 <= cell[0] <= 3 and 1 <= cell[1] <= 3)}
        self.assertIs(fails(target, rule, outside, 1, 1), False)
        self.assertIs(fails(target, rule, {cell: True for cell in outside}, 1, 1), False)
        inside = {cell: False for cell in cells if cell not in outside}
        self.assertIs(fails(target, rule, inside, 1, 1), True)
        for cell in inside:
            most = {other: False for other in inside if other != cell}
            self.assertIs(fails(target, rule, most, 1, 1), True)
        three = {cell: True for cell in ((1, 1), (2, 3), (3, 2))}
        self.assertIs(fails(target, rule, {**inside, **three}, 1, 1), False)

    def test_nothing_is_said(self):
        self.assertIs(fails(["O"], read_rule("B/S"), {}, 0, 0), True)
        self.assertIs(fails(["."], read_rule("B/S"), {}, 0, 0), False)
        self.assertIs(fails(["."], read_rule("B12345678/S012345678"), {}, 0, 0), False)
        self.assertIs(fails(["O"], read_rule("B/S8"), {}, 0, 0), False)

    def test_rules_with_many_births(self):
        rule = read_rule("B12345678/S012345678")
        # One living cell among the nine, and the cell lives whatever the others are.
        for at in range(9):
            self.assertIs(fails(["."], rule, {divmod(at, 3): True}, 0, 0), True)
            self.assertIs(fails(["."], rule, {divmod(at, 3): False}, 0, 0), False)
        self.assertIs(fails(["."], Rule([1, 2, 3, 4, 5, 6, 7, 8], []), {(0, 0): True}, 0, 0), False)
        self.assertIs(fails(["."], Rule([1, 2, 3, 4, 5, 6, 7, 8], []), {(0, 0): True, (1, 1): False}, 0, 0), True)

    def test_the_arguments_stay_as_they_are(self):
        target, case = ["O."], {(0, 0): True, (1, 1): False}
        fails(target, read_rule("B3/S23"), case, 0, 1)
        self.assertEqual((target, case), (["O."], {(0, 0): True, (1, 1): False}))

    def test_somewhat_beyond_the_limits(self):
        chance = random.Random(181818)
        target = random_picture(chance, 7, 8, ".O")
        case = {(row, column): chance.randrange(2) == 1 for row in range(9) for column in range(10)
                if chance.randrange(3)}
        self.check_all_cells(target, read_rule("B3/S23"), case)


if __name__ == "__main__":
    unittest.main()
