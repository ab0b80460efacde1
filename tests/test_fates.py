import random
import time
import unittest
from unittest import mock

from longlife.fates import at_generation, fate, holds
from longlife.patterns import home, mirrored, moved, pattern, read_picture, turned
from longlife.rules import Rule, read_rule
from longlife.strips import WIDTH
from plain import BLINKER, BLOCK, FAR, GLIDER, RULES, plainly_grown, soup

LIFE = read_rule("B3/S23")
MOST = 2 ** 40
# It comes back after 15 generations.
PENTA = read_picture(["..O....O..", "OO.OOOO.OO", "..O....O.."])
# The light spaceship: it goes two columns in 4 generations.
SHIP = read_picture([".O..O", "O....", "O...O", "OOOO."])


def least(cells):
    return min(row for row, _ in cells), min(column for _, column in cells)


def plain_fate(cells, rule, bound):
    """The fate as point 15 tells it, over the plain rule."""
    living = [pattern(cells)]
    homes = [home(cells)]
    for generation in range(1, bound + 1):
        living.append(plainly_grown(living[-1], rule, 1))
        homes.append(home(living[-1]))
        for start in range(generation):
            if homes[start] != homes[generation]:
                continue
            if not living[generation]:
                return start, generation - start, 0, 0
            (row, column), (start_row, start_column) = least(living[generation]), least(living[start])
            return start, generation - start, row - start_row, column - start_column
    return None


class FateTest(unittest.TestCase):
    def check_bounds(self, cells, rule, told):
        """The fate is found within just enough generations, and with more of them."""
        found = told[0] + told[1]
        for bound in (found, found + 1, found + 50, 1000):
            self.assertEqual(fate(cells, rule, bound), told)
        for bound in (found - 1, found // 2, 1):
            if 0 < bound < found:
                self.assertIsNone(fate(cells, rule, bound))

    def test_still_patterns(self):
        self.check_bounds(BLOCK, LIFE, (0, 1, 0, 0))
        self.check_bounds([(4, 4)], read_rule("B/S0"), (0, 1, 0, 0))

    def test_patterns_that_come_back(self):
        self.check_bounds(BLINKER, LIFE, (0, 2, 0, 0))
        self.check_bounds(PENTA, LIFE, (0, 15, 0, 0))
        self.check_bounds(BLINKER + moved(PENTA, 30, 30), LIFE, (0, 30, 0, 0))

    def test_patterns_that_move(self):
        self.check_bounds(GLIDER, LIFE, (0, 4, 1, 1))
        self.check_bounds(turned(GLIDER), LIFE, (0, 4, 1, -1))
        self.check_bounds(mirrored(GLIDER), LIFE, (0, 4, 1, -1))
        self.check_bounds(turned(turned(GLIDER)), LIFE, (0, 4, -1, -1))
        self.check_bounds(SHIP, LIFE, (0, 4, 0, -2))
        self.check_bounds(mirrored(SHIP), LIFE, (0, 4, 0, 2))
        self.check_bounds(turned(SHIP), LIFE, (0, 4, -2, 0))

    def test_the_empty_pattern(self):
        for string in RULES:
            self.check_bounds([], read_rule(string), (0, 1, 0, 0))

    def test_patterns_that_die(self):
        self.check_bounds([(0, 0)], read_rule("B2/S"), (1, 1, 0, 0))
        self.check_bounds([(7, -9), (7, -8)], LIFE, (1, 1, 0, 0))
        diagonal = [(at, at) for at in range(9)]
        self.check_bounds(diagonal, LIFE, (5, 1, 0, 0))

    def test_starts_above_0(self):
        self.check_bounds([(0, 0), (0, 1), (1, 0)], LIFE, (1, 1, 0, 0))
        self.check_bounds([(0, 0), (0, 1), (0, 2), (1, 1)], LIFE, plain_fate([(0, 0), (0, 1), (0, 2), (1, 1)], LIFE, 30))
        before = read_picture(["O.O", ".OO", ".O."])
        self.check_bounds(before, LIFE, (0, 4, 1, 1))
        self.check_bounds(before + [(20, 20)], LIFE, (1, 4, 1, 1))
        self.check_bounds(before + [(-20, 20), (-20, 21)], LIFE, (1, 4, 1, 1))

    def test_any_patterns_against_the_words_of_the_document(self):
        for at, string in enumerate(RULES + ["B368/S245", "B36/S23"]):
            rule = read_rule(string)
            for seed in range(6):
                cells = soup(100 * at + seed, 4, 5, 45)
                self.assertEqual(fate(cells, rule, 14), plain_fate(cells, rule, 14))

    def test_any_rules_against_the_words_of_the_document(self):
        chance = random.Random(11)
        for seed in range(120):
            births = [number for number in range(2, 9) if chance.randrange(2)]
            survival = [number for number in range(9) if chance.randrange(2)]
            rule = Rule(births, survival)
            cells = moved(soup(seed, 5, 5, 40), chance.randrange(-9, 9), chance.randrange(-9, 9))
            for bound in (1, 2, 12):
                self.assertEqual(fate(cells, rule, bound), plain_fate(cells, rule, bound))

    def test_places_do_not_count(self):
        for cells, told in ((GLIDER, (0, 4, 1, 1)), (SHIP, (0, 4, 0, -2)), (PENTA, (0, 15, 0, 0))):
            for row, column in ((-5, 9), (FAR - 300, FAR - 300), (-FAR + 300, -FAR + 300), (300 - FAR, FAR - 300)):
                self.assertEqual(fate(moved(cells, row, column), LIFE, 20), told)

    def test_parts_far_from_each_other(self):
        far = GLIDER + moved(GLIDER, 2 ** 45, -2 ** 46)
        self.assertEqual(fate(far, LIFE, 10), (0, 4, 1, 1))
        self.assertIsNone(fate(far, LIFE, 3))
        self.assertIsNone(fate(GLIDER + moved(BLOCK, 0, 2 ** 30), LIFE, 100))
        self.assertIsNone(fate(GLIDER + moved(turned(GLIDER), 0, -2 ** 30), LIFE, 100))
        corners = moved(BLOCK, -FAR, -FAR) + moved(BLOCK, FAR - 1, FAR - 1)
        self.assertEqual(fate(corners, LIFE, 10), (0, 1, 0, 0))

    def test_wide_patterns(self):
        for gap in range(WIDTH - 12, WIDTH + 12, 3):
            self.assertEqual(fate(SHIP + moved(SHIP, 1, gap) + moved(SHIP, 2, 2 * gap + 1), LIFE, 9), (0, 4, 0, -2))
            self.assertEqual(fate(turned(SHIP) + moved(turned(SHIP), 0, gap), LIFE, 9), (0, 4, -2, 0))
        # The cells of each row come to lie in other strips, as they move.
        row = [(0, column) for column in range(0, 3 * WIDTH, 2)]
        self.assertEqual(fate(row, read_rule("B1/S"), 3), plain_fate(row, read_rule("B1/S"), 3))

    def test_patterns_that_look_alike(self):
        # The second generation of these is as large as the first one, but it is its mirror image.
        for cells in (GLIDER, SHIP):
            self.assertIsNone(fate(cells, LIFE, 3))
        # At the generation 1, another number of cells stands between the same edges.
        self.assertEqual(fate(PENTA, LIFE, 14), None)

    def test_order_and_repeats_do_not_count_and_nothing_is_changed(self):
        cells = [GLIDER[at] for at in (4, 1, 3, 1, 0, 2, 4)]
        kept = list(cells)
        self.assertEqual(fate(cells, LIFE, 4), (0, 4, 1, 1))
        self.assertIsInstance(fate(cells, LIFE, 4), tuple)
        self.assertEqual(cells, kept)

    def test_late_fates(self):
        # What is known of this pattern: it comes to rest at the generation 173, with blinkers among what is left.
        cells = read_picture(["OOO", "O.O", "O.O"])
        self.check_bounds(cells, LIFE, (173, 2, 0, 0))
        self.assertFalse(holds(cells, LIFE, (172, 2, 0, 0)))
        self.assertFalse(holds(cells, LIFE, (173, 1, 0, 0)))
        self.assertTrue(holds(cells, LIFE, (173, 2, 0, 0)))

    def test_patterns_with_equal_marks_are_told_apart(self):
        with mock.patch("longlife.fates.PRIME", 1):
            self.check_bounds(GLIDER, LIFE, (0, 4, 1, 1))
            self.check_bounds(PENTA, LIFE, (0, 15, 0, 0))
            self.check_bounds([(at, at) for at in range(9)], LIFE, (5, 1, 0, 0))

    def test_no_fate_within_1000_generations_in_good_time(self):
        began = time.monotonic()
        self.assertIsNone(fate(read_picture([".OO", "OO.", ".O."]), LIFE, 1000))
        self.assertIsNone(fate(read_picture(["OO", "O.", ".O"]), read_rule("B2/S"), 600))
        self.assertLess(time.monotonic() - began, 60)


class HoldsTest(unittest.TestCase):
    def check(self, cells, rule, told, expected):
        self.assertIs(holds(cells, rule, told), expected)
        first = plainly_grown(cells, rule, told[0])
        self.assertEqual(plainly_grown(first, rule, told[1]) == moved(first, told[2], told[3]), expected)

    def test_told_fates_of_a_glider(self):
        for start in (0, 1, 2, 7):
            for times in (1, 2, 3):
                self.check(GLIDER, LIFE, (start, 4 * times, times, times), True)
                self.check(GLIDER, LIFE, (start, 4 * times, times, times + 1), False)
                self.check(GLIDER, LIFE, (start, 4 * times, times - 1, times), False)
                self.check(GLIDER, LIFE, (start, 4 * times, -times, times), False)
                self.check(GLIDER, LIFE, (start, 4 * times + 2, times, times), False)
        self.check(GLIDER, LIFE, (0, 1, 0, 0), False)

    def test_told_fates_of_still_patterns(self):
        self.check(BLOCK, LIFE, (0, 1, 0, 0), True)
        self.check(BLOCK, LIFE, (3, 7, 0, 0), True)
        self.check(BLOCK, LIFE, (0, 1, 0, 1), False)
        self.check(BLOCK, LIFE, (0, 1, -1, 0), False)
        self.check(BLINKER, LIFE, (0, 2, 0, 0), True)
        self.check(BLINKER, LIFE, (1, 6, 0, 0), True)
        self.check(BLINKER, LIFE, (0, 3, 0, 0), False)

    def test_starts_that_are_too_small(self):
        cells = [(0, 0), (0, 1), (1, 0)]
        self.check(cells, LIFE, (0, 1, 0, 0), False)
        self.check(cells, LIFE, (1, 1, 0, 0), True)
        self.check(cells, LIFE, (2, 1, 0, 0), True)

    def test_the_empty_pattern_is_equal_to_itself_wherever_it_is_moved(self):
        for told in ((0, 1, 0, 0), (3, 4, 0, 0), (0, 1, 5, -7), (2, 3, FAR, FAR)):
            self.check([], LIFE, told, True)
            self.check([(0, 0)], LIFE, (1,) + told[1:], True)
        self.check([(0, 0)], LIFE, (0, 1, 0, 0), False)
        self.check([(0, 0)], LIFE, (0, 2, 1, 1), False)

    def test_long_starts_and_periods(self):
        self.assertIs(holds(GLIDER, LIFE, (1000, 1000, 250, 250)), True)
        self.assertIs(holds(GLIDER, LIFE, (1000, 1000, 250, 251)), False)
        self.assertIs(holds(GLIDER, LIFE, (1000, 999, 250, 250)), False)
        self.assertIs(holds(PENTA, LIFE, (999, 990, 0, 0)), True)
        self.assertIs(holds(PENTA, LIFE, (999, 1000, 0, 0)), False)
        self.assertIs(holds(moved(SHIP, FAR - 9, 0), LIFE, (7, 1000, 0, -500)), True)

    def test_fates_hold(self):
        for at, string in enumerate(["B3/S23", "B36/S23", "B368/S245", "B3678/S34678", "B4/S2"]):
            for seed in range(12):
                cells = soup(30 * at + seed, 5, 5, 50)
                told = fate(cells, read_rule(string), 300)
                if told is not None:
                    self.assertIs(holds(cells, read_rule(string), told), True)
                    later = (told[0] + 5, 3 * told[1], 3 * told[2], 3 * told[3])
                    self.assertIs(holds(cells, read_rule(string), later), True)

    def test_order_and_repeats_do_not_count_and_nothing_is_changed(self):
        cells = [GLIDER[at] for at in (4, 1, 3, 1, 0, 2, 4)]
        kept = list(cells)
        self.assertIs(holds(cells, LIFE, (0, 4, 1, 1)), True)
        self.assertEqual(at_generation(cells, LIFE, (0, 4, 1, 1), 0), GLIDER)
        self.assertEqual(at_generation(cells, LIFE, (0, 4, 1, 1), 8), moved(GLIDER, 2, 2))
        self.assertEqual(cells, kept)


class AtGenerationTest(unittest.TestCase):
    def check_all(self, cells, rule, told, most):
        """Each generation, held against the plain rule."""
        living = pattern(cells)
        for generation in range(most + 1):
            self.assertEqual(at_generation(cells, rule, told, generation), living)
            living = plainly_grown(living, rule, 1)

    def test_each_generation(self):
        self.check_all(GLIDER, LIFE, (0, 4, 1, 1), 30)
        self.check_all(GLIDER, LIFE, (3, 8, 2, 2), 30)
        self.check_all(SHIP, LIFE, (5, 4, 0, -2), 30)
        self.check_all(PENTA, LIFE, (0, 15, 0, 0), 40)
        self.check_all(BLINKER, LIFE, (1, 4, 0, 0), 12)
        self.check_all([], LIFE, (0, 1, 0, 0), 4)
        self.check_all([], LIFE, (2, 3, 7, 7), 12)

    def test_before_and_behind_the_start(self):
        diagonal = [(at, at) for at in range(9)]
        self.check_all(diagonal, LIFE, (5, 1, 0, 0), 12)
        self.check_all(diagonal, LIFE, (9, 2, 4, 4), 16)
        cells = [(0, 0), (0, 1), (0, 2), (1, 1)]
        self.check_all(cells, LIFE, fate(cells, LIFE, 100), 40)
        self.check_all(soup(4, 6, 6, 50), LIFE, fate(soup(4, 6, 6, 50), LIFE, 500), 60)

    def test_any_fates(self):
        for at, string in enumerate(["B3/S23", "B36/S23", "B368/S245", "B3678/S34678"]):
            for seed in range(8):
                cells = moved(soup(50 * at + seed, 5, 5, 50), -2, 40)
                told = fate(cells, read_rule(string), 60)
                if told is not None:
                    self.check_all(cells, read_rule(string), told, told[0] + 3 * told[1] + 2)

    def test_generations_up_to_2_to_the_40(self):
        for generation in (MOST, MOST - 1, MOST - 2, MOST - 3, 10 ** 12 + 7):
            times, rest = divmod(generation, 4)
            expected = moved(plainly_grown(GLIDER, LIFE, rest), times, times)
            self.assertEqual(at_generation(GLIDER, LIFE, (0, 4, 1, 1), generation), expected)
            self.assertEqual(at_generation(GLIDER, LIFE, (1000, 1000, 250, 250), generation), expected)
            expected = moved(plainly_grown(SHIP, LIFE, rest), 0, -2 * times)
            self.assertEqual(at_generation(SHIP, LIFE, (3, 8, 0, -4), generation), expected)
            self.assertEqual(at_generation(PENTA, LIFE, (0, 15, 0, 0), generation), plainly_grown(PENTA, LIFE, generation % 15))
            self.assertEqual(at_generation([(0, 0)], LIFE, (1, 1, 0, 0), generation), [])
            self.assertEqual(at_generation(moved(BLOCK, FAR - 1, -FAR), LIFE, (0, 1, 0, 0), generation),
                             moved(BLOCK, FAR - 1, -FAR))

    def test_somewhat_beyond_the_limits(self):
        self.assertEqual(fate(GLIDER, LIFE, 1200), (0, 4, 1, 1))
        self.assertIsNone(fate([(0, 0)], read_rule("B1/S"), 0))
        self.assertIs(holds(GLIDER, LIFE, (1202, 1204, 301, 301)), True)
        self.assertIs(holds(GLIDER, LIFE, (1202, 1204, 301, 300)), False)
        self.assertEqual(at_generation(GLIDER, LIFE, (1202, 1204, 301, 301), 2 ** 43), moved(GLIDER, 2 ** 41, 2 ** 41))

    def test_starts_that_are_larger_than_needed(self):
        told = (1000, 1000, 250, 250)
        for generation in (0, 1, 999, 1000, 1001, 1999, 2000, 2001, 5000):
            times, rest = divmod(generation, 4)
            expected = moved(plainly_grown(GLIDER, LIFE, rest), times, times)
            self.assertEqual(at_generation(GLIDER, LIFE, told, generation), expected)

    def test_the_returned_list_is_new(self):
        cells = list(BLOCK)
        for generation in (0, 1, 2, MOST):
            found = at_generation(cells, LIFE, (1, 1, 0, 0), generation)
            found.append((9, 9))
            self.assertEqual(cells, BLOCK)


if __name__ == "__main__":
    unittest.main()
