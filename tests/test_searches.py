"""Point 20: searching for pasts of targets."""

import itertools
import random
import unittest

from longlife.pasts import denies, is_past, search
from longlife.rules import Rule, read_rule
from plain import (RULES, picture_cells, plain_next, plainly_fails, plainly_holds, random_picture, random_rule,
                   tuples_of, tuples_within)

# Targets without a past for which many cases must be gone through.
HARD = [
    ("B45678/S034567", [".OO..", "..OO.", "OOOOO", "O.OO.", ".O..O"]),
    ("B5678/S04567", [".O..O", "O..O.", "O...O", "OOOO.", "..O.."]),
    ("B123458/S01234", [".O.O.", "O.OO.", "O.OOO", "..OO.", "....O"]),
    ("B3/S058", ["OOOOO", "OO..O", "O..OO", "OO.O.", "OOOOO"]),
    ("B23457/S0124567", ["....O", ".OOO.", ".O.O.", ".OO..", "....O"]),
    ("B16/S3", [".OOOO", "O...O", "O.O.O", "OO..O", ".OOOO"]),
    ("B7/S678", ["O....", ".O.OO", "....O", "O...O", ".O..O"]),
    ("B48/S017", ["OOOOO", "O.O.O", "O...O", "O.OOO", "OOOO."]),
]
# Targets with a past for which many cases must be gone through.
RARE = [
    ("B45678/S034567", [".OO..", "..OO.", "OOOOO", "O.OO.", ".OO.O"]),
    ("B67/S3", ["OOOOO", "O...O", "O.O.O", "O..OO", "O.O.O"]),
    ("B1235678/S234678", ["....O", ".O...", "..O..", ".....", "....."]),
    ("B167/S38", ["O.O..", "OOOOO", "O...O", "O.O.O", "OOOOO"]),
    ("B7/S678", ["O....", ".O.OO", "....O", "O....", ".O..O"]),
]


def plainly_past(target, rule, past):
    later = plain_next(picture_cells(past), rule.births, rule.survival)
    return sorted((row + 1, column + 1) for row, column in picture_cells(target)) == [
        (row, column) for row, column in later if 1 <= row <= len(target) and 1 <= column <= len(target[0])]


def plainly_denies(target, rule, denial):
    def fails(case, row, column):
        nine = tuple(case.get((row + down, column + beside)) for down in range(3) for beside in range(3))
        return plainly_fails(rule.births, rule.survival, target[row][column] == "O", nine)
    return plainly_holds(fails, {}, denial)


class SearchTest(unittest.TestCase):
    def check_tuples(self, target, denial):
        """A tree of tuples of integers that names cells of the target and of the past alone."""
        self.assertIs(type(denial), tuple)
        word, row, column = denial[:3]
        self.assertEqual((type(row), type(column)), (int, int))
        more = 0 if word == "fails" else 2
        self.assertIn(row, range(len(target) + more))
        self.assertIn(column, range(len(target[0]) + more))
        if word == "fails":
            self.assertEqual(len(denial), 3)
        else:
            self.assertEqual((word, len(denial)), ("cell", 5))
            self.check_tuples(target, denial[3])
            self.check_tuples(target, denial[4])

    def check_search(self, target, rule):
        """Return the word of the answer, which is right."""
        answer = search(target, rule)
        self.assertIs(type(answer), tuple)
        word, found = answer
        if word == "past":
            self.assertIs(type(found), list)
            self.assertEqual([len(signs) for signs in found], [len(target[0]) + 2] * (len(target) + 2))
            self.assertEqual(set("".join(found)) - set(".O"), set())
            self.assertTrue(plainly_past(target, rule, found))
            self.assertIs(is_past(target, rule, found), True)
        else:
            self.assertEqual(word, "denial")
            self.check_tuples(target, found)
            self.assertLessEqual(tuples_within(found), 60)
            self.assertTrue(plainly_denies(target, rule, found))
            self.assertIs(denies(target, rule, found), True)
        return word

    def test_random_targets_of_all_sizes(self):
        chance = random.Random(20)
        words = []
        rules = [read_rule(text) for text in RULES] + [random_rule(chance) for _ in range(30)]
        for rule in rules:
            for height, width in itertools.product(range(1, 6), repeat=2):
                if chance.randrange(3) == 0:
                    signs = chance.choice((".O", "...O", ".OOO", "O", "."))
                    words.append(self.check_search(random_picture(chance, height, width, signs), rule))
        self.assertGreater(words.count("past"), 100)
        self.assertGreater(words.count("denial"), 40)

    def test_targets_with_a_past_are_never_denied(self):
        chance = random.Random(2020)
        for rule in [read_rule(text) for text in RULES] + [random_rule(chance) for _ in range(30)]:
            for _ in range(4):
                height, width = chance.randrange(1, 6), chance.randrange(1, 6)
                past = random_picture(chance, height + 2, width + 2, chance.choice((".O", "....O", ".OOO")))
                later = set(plain_next(picture_cells(past), rule.births, rule.survival))
                target = ["".join("O" if (row, column) in later else "." for column in range(1, width + 1))
                          for row in range(1, height + 1)]
                self.assertEqual(self.check_search(target, rule), "past")

    def test_all_small_targets_against_all_their_pasts(self):
        chance = random.Random(202020)
        rules = [read_rule(text) for text in ("B/S", "B8/S8", "B/S0", "B12345678/S012345678", "B3/S23", "B1/S")]
        words = []
        for rule in rules + [random_rule(chance) for _ in range(6)]:
            for height, width in ((1, 1), (1, 2), (2, 1)):
                targets = set()
                for signs in itertools.product(".O", repeat=(height + 2) * (width + 2)):
                    at = {divmod(place, width + 2): sign == "O" for place, sign in enumerate(signs)}
                    targets.add(tuple(next_signs(rule, at, height, width)))
                for signs in itertools.product(".O", repeat=height * width):
                    target = ["".join(signs[row * width:row * width + width]) for row in range(height)]
                    word = self.check_search(target, rule)
                    self.assertEqual(word, "past" if tuple(target) in targets else "denial")
                    words.append(word)
        self.assertGreater(words.count("denial"), 5)

    def test_targets_of_five_rows_and_five_columns_that_are_hard_to_deny(self):
        for text, target in HARD:
            self.assertEqual(self.check_search(target, read_rule(text)), "denial")
            self.assertLess(tuples_of(search(target, read_rule(text))[1]), 30000)

    def test_targets_of_five_rows_and_five_columns_whose_pasts_are_rare(self):
        for text, target in RARE:
            self.assertEqual(self.check_search(target, read_rule(text)), "past")

    def test_each_target_of_five_rows_and_five_columns_has_a_past_under_this_rule(self):
        chance = random.Random(5)
        targets = [random_picture(chance, 5, 5, signs) for signs in (".O", ".OO", "...O", ".OOOOO") for _ in range(10)]
        for target in targets + [["OOOOO"] * 5, ["....."] * 5, ["O.O.O", ".O.O."] * 2 + ["O.O.O"]]:
            self.assertEqual(self.check_search(target, read_rule("B3/S23")), "past")

    def test_by_hand(self):
        self.assertEqual(search(["O"], read_rule("B/S"))[0], "denial")
        self.assertEqual(search(["O"], read_rule("B/S8")), ("past", ["OOO"] * 3))
        self.assertEqual(search(["OO"], read_rule("B8/S"))[0], "denial")
        self.assertEqual(search(["."], Rule([], range(9)))[0], "past")
        self.assertEqual(search(["O.O"], read_rule("B/S8"))[0], "denial")
        self.assertEqual(search(["O.O"], Rule([], [5, 6, 7, 8]))[0], "past")
        self.assertEqual(search(["OO", "OO"], read_rule("B/S0"))[0], "denial")

    def test_the_arguments_stay_as_they_are(self):
        target = ["O.", ".O"]
        search(target, read_rule("B3/S23"))
        search(target, read_rule("B/S0"))
        self.assertEqual(target, ["O.", ".O"])

    def test_an_answer_is_a_new_one_each_time(self):
        first = search(["O"], read_rule("B3/S23"))
        first[1][0] = ""
        self.assertEqual(self.check_search(["O"], read_rule("B3/S23")), "past")

    def test_somewhat_beyond_the_limits(self):
        chance = random.Random(77)
        for height, width in ((6, 6), (7, 7), (2, 12), (12, 1), (8, 8)):
            target = random_picture(chance, height, width, ".O")
            self.assertEqual(self.check_search(target, read_rule("B3/S23")), "past")
            self.check_search(target, read_rule("B/S0"))
        self.assertEqual(search([], read_rule("B3/S23"))[0], "past")
        self.assertEqual(search([""], read_rule("B3/S23"))[0], "past")


def next_signs(rule, alive, height, width):
    """The rows of a target, from the cells of a past that are alive."""
    rows = []
    for row in range(1, height + 1):
        signs = ""
        for column in range(1, width + 1):
            count = sum(alive[(row + down, column + beside)] for down in (-1, 0, 1) for beside in (-1, 0, 1))
            middle = alive[(row, column)]
            signs += "O" if count - middle in (rule.survival if middle else rule.births) else "."
        rows.append(signs)
    return rows


if __name__ == "__main__":
    unittest.main()
