"""Points 24, 25 and 26: stills of boxes, places that fail, and denials of boxes with wishes."""

import itertools
import random
import unittest

from longlife.rules import read_rule
from longlife.stills import denies_still, is_still, place_fails, search_still
from plain import (RULES, picture_cells, plain_next, plainly_fails, plainly_holds, random_picture, random_rule,
                   tuples_of, tuples_within)

LIFE = read_rule("B3/S23")
SIZES = [(1, 1), (1, 2), (2, 1), (1, 5), (5, 1), (2, 3), (3, 3), (4, 5), (5, 5)]
# Stills under the rule B3/S23.
STILLS = [
    ["."], [".....", "....."], ["OO", "OO"], [".OO.", "O..O", ".OO."], [".O.", "O.O", ".O."], ["OO.", "O.O", ".O."],
    [".OO..", "O..O.", ".O.O.", "..O.."], ["OO...", "O.O..", ".O...", ".....", "....."], ["OO.OO", "OO.OO"],
]


def plain_is_still(picture, rule):
    cells = picture_cells(picture)
    return plain_next(cells, rule.births, rule.survival) == cells


def meets(picture, wishes):
    return all(wish in ("?", sign) for signs, line in zip(picture, wishes) for sign, wish in zip(signs, line))


def pictures_of(height, width):
    for signs in itertools.product(".O", repeat=height * width):
        line = "".join(signs)
        yield [line[row * width:row * width + width] for row in range(height)]


def places_of(height, width):
    return itertools.product(range(-1, height + 1), range(-1, width + 1))


def plainly_place_fails(wishes, rule, case, row, column):
    """The nine cells of a place, and all states of those of which nothing is wished or said."""
    nine = []
    for cell in itertools.product(range(row - 1, row + 2), range(column - 1, column + 2)):
        if not (0 <= cell[0] < len(wishes) and 0 <= cell[1] < len(wishes[0])):
            nine.append(False)
        elif wishes[cell[0]][cell[1]] != "?":
            nine.append(wishes[cell[0]][cell[1]] == "O")
        else:
            nine.append(case.get(cell))
    return plainly_fails(rule.births, rule.survival, None, tuple(nine))


def wished_case(wishes):
    return {(row, column): sign == "O" for row, signs in enumerate(wishes) for column, sign in enumerate(signs)
            if sign != "?"}


def plainly_denies_still(wishes, rule, denial):
    def fails(case, row, column):
        return plainly_place_fails(wishes, rule, case, row, column)
    return plainly_holds(fails, wished_case(wishes), denial)


class IsStillTest(unittest.TestCase):
    def test_known_ones(self):
        for picture in STILLS:
            self.assertIs(is_still(picture, LIFE), True)
        for picture in (["O"], ["OOO"], ["OO", "O."], ["OOO", "...", "..."], [".O.", "..O", "OOO"], ["OOOOO"] * 5,
                        ["O...O", ".....", ".....", ".....", "....."]):
            self.assertIs(is_still(picture, LIFE), False)

    def test_a_birth_outside_of_the_box(self):
        # Each of the three stays alive, but three neighbours give birth to a cell.
        for birth, expected in (("3", False), ("2", False), ("1", False), ("", True), ("45678", True)):
            rule = read_rule(f"B{birth}/S12")
            self.assertIs(is_still(["OOO"], rule), expected)
            self.assertIs(is_still(["O", "O", "O"], rule), expected)
            self.assertIs(is_still(["...", "OOO", "..."], rule), expected)
        # The corners of the frame around the box have one neighbour at most.
        self.assertIs(is_still(["O"], read_rule("B1/S0")), False)
        self.assertIs(is_still(["O"], read_rule("B2345678/S0")), True)

    def test_each_side_and_corner_around_the_box(self):
        rule = read_rule("B3/S12")
        line = ["O....", "O....", "O....", ".....", "....."]
        for picture in (line, [signs[::-1] for signs in line], ["OOO..", "....."], [".....", "..OOO"]):
            self.assertIs(is_still(picture, rule), False)
            self.assertIs(is_still(picture, read_rule("B45678/S12")), True)
        corners = read_rule("B1/S0")
        for row, column in itertools.product((0, 2), repeat=2):
            picture = [list("...") for _ in range(3)]
            picture[row][column] = "O"
            self.assertIs(is_still(["".join(signs) for signs in picture], corners), False)

    def test_against_the_plain_rule(self):
        chance = random.Random(24)
        found = []
        for rule in [read_rule(text) for text in RULES] + [random_rule(chance) for _ in range(20)]:
            for height, width in SIZES:
                for signs in (".O", "....O", "OOOO."):
                    picture = random_picture(chance, height, width, signs)
                    found.append(is_still(picture, rule))
                    self.assertIs(found[-1], plain_is_still(picture, rule))
        self.assertGreater(found.count(True), 50)

    def test_all_pictures_of_a_small_box(self):
        for text in ("B3/S23", "B2/S0", "B3/S12", "B8/S01234567", "B/S0", "B36/S125"):
            rule = read_rule(text)
            for picture in pictures_of(3, 3):
                self.assertIs(is_still(picture, rule), plain_is_still(picture, rule))

    def test_the_argument_stays_as_it_is(self):
        picture = ["OO", "OO"]
        is_still(picture, LIFE)
        self.assertEqual(picture, ["OO", "OO"])

    def test_somewhat_beyond_the_limits(self):
        self.assertIs(is_still(["OO....OO", "OO....OO"] + ["." * 8] * 6, LIFE), True)
        self.assertIs(is_still(["OO....OO", "OO....OO"] + ["." * 8] * 5 + ["O......."], LIFE), False)
        self.assertIs(is_still([], LIFE), True)


class PlaceFailsTest(unittest.TestCase):
    def check_places(self, wishes, rule, case):
        found = []
        for row, column in places_of(len(wishes), len(wishes[0])):
            found.append(place_fails(wishes, rule, case, row, column))
            self.assertIs(found[-1], plainly_place_fails(wishes, rule, case, row, column), (row, column))
        return found

    def test_random_wishes_and_cases(self):
        chance = random.Random(25)
        found = []
        for rule in [read_rule(text) for text in RULES] + [random_rule(chance) for _ in range(8)]:
            for height, width in SIZES:
                for signs in ("?", ".O", "??.O", "???O", "???."):
                    wishes = random_picture(chance, height, width, signs)
                    case = {cell: chance.randrange(2) == 1 for cell in itertools.product(range(height), range(width))
                            if wishes[cell[0]][cell[1]] == "?" and chance.randrange(2)}
                    found.extend(self.check_places(wishes, rule, case))
        self.assertGreater(found.count(True), 1000)
        self.assertGreater(found.count(False), 1000)

    def test_against_all_pictures_of_the_box(self):
        chance = random.Random(2525)
        for rule in (LIFE, read_rule("B2/S0"), read_rule("B12/S3"), random_rule(chance), random_rule(chance)):
            for height, width in ((1, 1), (1, 3), (2, 2), (2, 3), (3, 2)):
                wishes = random_picture(chance, height, width, "?.O??")
                case = {cell: chance.randrange(2) == 1 for cell in itertools.product(range(height), range(width))
                        if wishes[cell[0]][cell[1]] == "?" and chance.randrange(2)}
                stays = {place: False for place in places_of(height, width)}
                for picture in pictures_of(height, width):
                    if meets(picture, wishes) and all((picture[row][column] == "O") == alive
                                                      for (row, column), alive in case.items()):
                        now = picture_cells(picture)
                        later = plain_next(now, rule.births, rule.survival)
                        for place in stays:
                            stays[place] = stays[place] or (place in now) == (place in later)
                for (row, column), stay in stays.items():
                    self.assertIs(place_fails(wishes, rule, case, row, column), not stay)

    def test_places_around_the_box(self):
        wishes = ["OOO"]
        rule = read_rule("B3/S12")
        failing = [(-1, 1), (1, 1)]
        for row, column in places_of(1, 3):
            self.assertIs(place_fails(wishes, rule, {}, row, column), (row, column) in failing)
        for row, column in places_of(1, 1):
            # A single cell gives birth all around it, and stays alive itself.
            self.assertIs(place_fails(["O"], read_rule("B1/S0"), {}, row, column), (row, column) != (0, 0))
            self.assertIs(place_fails(["O"], read_rule("B2/S"), {}, row, column), (row, column) == (0, 0))

    def test_what_is_wished_and_what_is_said_count_together(self):
        rule = read_rule("B3/S012345678")
        self.assertIs(place_fails(["O?O"], rule, {}, -1, 1), False)
        self.assertIs(place_fails(["O?O"], rule, {(0, 1): False}, -1, 1), False)
        self.assertIs(place_fails(["O?O"], rule, {(0, 1): True}, -1, 1), True)
        self.assertIs(place_fails(["???"], rule, {(0, 1): True, (0, 0): True, (0, 2): True}, 1, 1), True)
        self.assertIs(place_fails(["???"], rule, {(0, 1): True, (0, 0): True}, 1, 1), False)
        self.assertIs(place_fails(["OOO"], rule, {}, 1, 1), True)
        # A case may say again what is wished.
        self.assertIs(place_fails(["O?O"], rule, {(0, 0): True, (0, 1): True}, -1, 1), True)
        self.assertIs(place_fails(["O?."], rule, {(0, 2): False, (0, 1): True}, -1, 1), False)

    def test_the_middle_cell_may_be_either(self):
        # Alive or dead, it changes, but for each of the two another rule is to blame.
        around = ["OOO", "O?O", "OOO"]
        self.assertIs(place_fails(around, read_rule("B8/S"), {}, 1, 1), True)
        self.assertIs(place_fails(around, read_rule("B/S"), {}, 1, 1), False)
        self.assertIs(place_fails(around, read_rule("B8/S8"), {}, 1, 1), False)
        self.assertIs(place_fails(around, read_rule("B8/S8"), {(1, 1): False}, 1, 1), True)
        self.assertIs(place_fails(around, read_rule("B/S"), {(1, 1): True}, 1, 1), True)
        self.assertIs(place_fails(["???", "?O?", "???"], read_rule("B/S"), {}, 1, 1), True)
        self.assertIs(place_fails(["???", "?O?", "???"], read_rule("B/S8"), {}, 1, 1), False)
        self.assertIs(place_fails(["??", "O?"], read_rule("B/S8"), {}, 1, 0), True)

    def test_the_arguments_stay_as_they_are(self):
        wishes, case = ["O?", "??"], {(0, 1): True}
        place_fails(wishes, LIFE, case, 1, 2)
        self.assertEqual((wishes, case), (["O?", "??"], {(0, 1): True}))

    def test_somewhat_beyond_the_limits(self):
        chance = random.Random(252525)
        self.check_places(random_picture(chance, 7, 8, "?.O"), LIFE, {})


class DeniesStillTest(unittest.TestCase):
    def check(self, wishes, rule, denial):
        expected = plainly_denies_still(wishes, rule, denial)
        self.assertIs(denies_still(wishes, rule, denial), expected)
        return expected

    def random_denial(self, chance, height, width, most):
        if most == 1 or chance.randrange(6) == 0:
            return ("fails", chance.randrange(-1, height + 1), chance.randrange(-1, width + 1))
        branches = [self.random_denial(chance, height, width, most - 1) for _ in range(2)]
        return ("cell", chance.randrange(height), chance.randrange(width), *branches)

    def test_random_trees(self):
        chance = random.Random(26)
        found = []
        for _ in range(3000):
            height, width = chance.choice((1, 2)), chance.choice((1, 2, 3))
            wishes = random_picture(chance, height, width, "?.O")
            rule = chance.choice((read_rule("B/S"), read_rule("B12/S"), read_rule("B123/S8"), random_rule(chance)))
            found.append(self.check(wishes, rule, self.random_denial(chance, height, width, chance.randrange(1, 7))))
        self.assertGreater(found.count(True), 200)
        self.assertGreater(found.count(False), 1000)

    def test_a_single_fails_tuple(self):
        self.assertIs(denies_still(["O"], LIFE, ("fails", 0, 0)), True)
        self.assertIs(denies_still(["?"], LIFE, ("fails", 0, 0)), False)
        self.assertIs(denies_still(["OOO"], LIFE, ("fails", -1, 1)), True)
        self.assertIs(denies_still(["OOO"], LIFE, ("fails", 1, 1)), True)
        self.assertIs(denies_still(["OOO"], LIFE, ("fails", 1, 3)), False)
        self.assertIs(denies_still(["OOO"], LIFE, ("fails", 0, 1)), False)
        self.assertIs(denies_still(["O?O"], LIFE, ("fails", 0, 0)), True)

    def test_wished_cells_count_as_said(self):
        # The cell (0, 0) is wished to be alive, and only the branch for that counts.
        rule = read_rule("B3/S0")
        good, bad = ("fails", 0, 0), ("fails", -1, -1)
        self.assertIs(denies_still(["OO?"], rule, good), True)
        self.assertIs(denies_still(["OO?"], rule, bad), False)
        self.assertIs(denies_still(["OO?"], rule, ("cell", 0, 0, bad, good)), True)
        self.assertIs(denies_still(["OO?"], rule, ("cell", 0, 0, good, bad)), False)
        self.assertIs(denies_still([".??"], rule, ("cell", 0, 0, bad, bad)), False)
        both = ("cell", 0, 2, ("fails", 0, 1), ("fails", 0, 1))
        self.assertIs(denies_still([".O?"], rule, both), False)
        self.assertIs(denies_still([".OO"], rule, ("cell", 0, 0, both, bad)), True)
        self.assertIs(denies_still([".OO"], rule, ("cell", 0, 0, bad, both)), False)
        # One and the same cell is wished and then named again below another one.
        deep = ("cell", 0, 2, ("cell", 0, 0, bad, good), ("cell", 0, 1, bad, good))
        self.assertIs(denies_still(["OO?"], rule, deep), True)
        self.assertIs(denies_still(["OO?"], rule, ("cell", 0, 2, deep, ("cell", 0, 1, good, bad))), False)

    def test_a_cell_named_twice(self):
        rule = read_rule("B/S0")
        # Two living cells beside each other die; so if the second one of three is alive, the wished first one fails.
        wishes = ["O?", "??"]
        good, bad = ("fails", 0, 0), ("fails", -1, -1)
        self.assertIs(denies_still(wishes, rule, ("cell", 0, 1, bad, good)), False)
        self.assertIs(denies_still(["OO", "??"], rule, ("cell", 1, 1, ("cell", 1, 1, good, bad), good)), True)
        self.assertIs(denies_still(["OO", "??"], rule, ("cell", 1, 1, ("cell", 1, 1, bad, good), good)), False)
        self.assertIs(denies_still(["OO", "??"], rule, ("cell", 1, 1, good, ("cell", 1, 1, bad, good))), True)
        self.assertIs(denies_still(["OO", "??"], rule, ("cell", 1, 1, good, ("cell", 1, 1, good, bad))), False)

    def test_found_denials_and_what_is_near_them(self):
        chance = random.Random(2626)
        found = []
        for _ in range(60):
            rule = random_rule(chance)
            wishes = random_picture(chance, 3, 3, "?O?.")
            word, denial = search_still(wishes, rule)
            if word == "denial":
                self.assertTrue(self.check(wishes, rule, denial))
                other = list(wishes)
                other[1] = "???"
                found.append(self.check(other, rule, denial))
                if denial[0] == "cell":
                    found.append(self.check(wishes, rule, (*denial[:3], denial[4], denial[3])))
        self.assertIn(True, found)
        self.assertIn(False, found)

    def test_deep_trees(self):
        rule = read_rule("B/S0")
        wishes = ["?????"] * 2 + ["?OO??"] + ["?????"] * 2
        denial = ("fails", 2, 1)
        for step in range(58):
            denial = ("cell", *divmod(step % 25, 5), ("cell", 2, 1, ("fails", 5, 5), ("fails", 2, 2)), denial)
        self.assertEqual(tuples_within(denial), 60)
        self.assertTrue(self.check(wishes, rule, denial))
        self.assertIs(denies_still(["?????"] * 5, rule, denial), False)
        full = ("fails", 2, 1)
        for step in range(59):
            full = ("cell", *divmod(step % 25, 5), full, full)
        self.assertEqual(denies_still(wishes, rule, full), True)
        self.assertEqual(denies_still(["?????"] * 5, rule, full), False)

    def test_the_arguments_stay_as_they_are(self):
        wishes, denial = ["O?"], ("cell", 0, 1, ("fails", 0, 0), ("fails", 0, 0))
        denies_still(wishes, LIFE, denial)
        self.assertEqual((wishes, denial), (["O?"], ("cell", 0, 1, ("fails", 0, 0), ("fails", 0, 0))))


class SearchStillTest(unittest.TestCase):
    def check_search(self, wishes, rule):
        """Return the word of the answer, which is right."""
        answer = search_still(wishes, rule)
        self.assertIs(type(answer), tuple)
        word, found = answer
        if word == "still":
            self.assertIs(type(found), list)
            self.assertEqual([len(signs) for signs in found], [len(signs) for signs in wishes])
            self.assertEqual(set("".join(found)) - set(".O"), set())
            self.assertTrue(plain_is_still(found, rule) and meets(found, wishes))
            self.assertIs(is_still(found, rule), True)
        else:
            self.assertEqual(word, "denial")
            self.check_tuples(wishes, found)
            self.assertLessEqual(tuples_within(found), 60)
            self.assertTrue(plainly_denies_still(wishes, rule, found))
            self.assertIs(denies_still(wishes, rule, found), True)
        return word

    def check_tuples(self, wishes, denial):
        self.assertIs(type(denial), tuple)
        word, row, column = denial[:3]
        if word == "fails":
            self.assertEqual(len(denial), 3)
            self.assertIn((row, column), places_of(len(wishes), len(wishes[0])))
        else:
            self.assertEqual((word, len(denial)), ("cell", 5))
            self.assertIn((row, column), itertools.product(range(len(wishes)), range(len(wishes[0]))))
            self.check_tuples(wishes, denial[3])
            self.check_tuples(wishes, denial[4])

    def test_small_boxes_against_all_their_pictures(self):
        chance = random.Random(262626)
        words = []
        for rule in [read_rule(text) for text in RULES] + [random_rule(chance) for _ in range(20)]:
            for height, width in ((1, 1), (1, 4), (2, 2), (2, 3), (3, 3)):
                stills = [picture for picture in pictures_of(height, width) if plain_is_still(picture, rule)]
                for signs in ("?O", "??.O", "?.", "????O"):
                    wishes = random_picture(chance, height, width, signs)
                    word = self.check_search(wishes, rule)
                    self.assertEqual(word, "still" if any(meets(still, wishes) for still in stills) else "denial")
                    words.append(word)
        self.assertGreater(words.count("still"), 200)
        self.assertGreater(words.count("denial"), 200)

    def test_wishes_that_a_still_meets_are_never_denied(self):
        chance = random.Random(1)
        for still in STILLS:
            for percent in (0, 20, 50, 80, 100):
                wishes = ["".join(sign if chance.randrange(100) < percent else "?" for sign in signs)
                          for signs in still]
                self.assertEqual(self.check_search(wishes, LIFE), "still")

    def test_boxes_of_five_rows_and_five_columns(self):
        chance = random.Random(55)
        words = []
        for rule in [read_rule(text) for text in RULES] + [random_rule(chance) for _ in range(30)]:
            for signs in ("?" * 20 + "O", "?" * 10 + ".O", "?O"):
                words.append(self.check_search(random_picture(chance, 5, 5, signs), rule))
        self.assertGreater(words.count("still"), 20)
        self.assertGreater(words.count("denial"), 20)

    def test_wishes_that_are_hard_to_deny(self):
        for text, wishes in (("B358/S245", ["??O??", "?????", "??.??", "?????", "??O??"]),
                             ("B36/S245", [".??O?", "?????", "?????", "????O", "O?.??"]),
                             ("B257/S12368", ["?????", "?????", "?????", "??O??", "?????"])):
            rule = read_rule(text)
            self.assertEqual(self.check_search(wishes, rule), "denial")
            self.assertLess(tuples_of(search_still(wishes, rule)[1]), 2000)

    def test_by_hand(self):
        self.assertEqual(search_still(["??", "??"], LIFE)[0], "still")
        self.assertEqual(search_still(["O?", "??"], LIFE), ("still", ["OO", "OO"]))
        self.assertEqual(search_still(["O?"], LIFE)[0], "denial")
        self.assertEqual(search_still(["OO", "O."], LIFE), ("denial", ("fails", 1, 1)))
        self.assertEqual(search_still(["O.", ".."], read_rule("B/S0")), ("still", ["O.", ".."]))

    def test_the_argument_stays_as_it_is(self):
        wishes = ["O?", "??"]
        search_still(wishes, LIFE)
        search_still(wishes, read_rule("B2/S"))
        self.assertEqual(wishes, ["O?", "??"])

    def test_somewhat_beyond_the_limits(self):
        for height, width in ((6, 6), (1, 30), (8, 8)):
            wishes = [["?"] * width for _ in range(height)]
            wishes[height // 2][width // 2] = "O"
            self.assertEqual(self.check_search(["".join(signs) for signs in wishes], LIFE),
                             "denial" if height == 1 else "still")
        self.assertEqual(search_still([], LIFE), ("still", []))


if __name__ == "__main__":
    unittest.main()
