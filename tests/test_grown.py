import random
import time
import unittest

from longlife.patterns import grown, moved, pattern, read_picture
from longlife.rules import Rule, read_rule
from longlife.strips import WIDTH
from plain import FAR, GLIDER, RULES, plain_next, soup

LIFE = read_rule("B3/S23")


class GrownTest(unittest.TestCase):
    def check_plainly(self, cells, rule, generations):
        plain = sorted(set(cells))
        for generation in range(generations + 1):
            self.assertEqual(grown(cells, rule, generation), plain)
            plain = plain_next(plain, rule.births, rule.survival)

    def test_the_empty_pattern_stays_empty(self):
        for string in RULES:
            self.assertEqual(grown([], read_rule(string), 0), [])
            self.assertEqual(grown([], read_rule(string), 1), [])
            self.assertEqual(grown([], read_rule(string), 1000), [])

    def test_0_generations_give_the_pattern(self):
        self.assertEqual(grown([(2, 1), (0, 5), (2, 1), (-3, 9)], LIFE, 0), [(-3, 9), (0, 5), (2, 1)])

    def test_the_passed_list_stays_and_the_returned_one_is_new(self):
        cells = [(2, 1), (0, 5), (2, 1)]
        for generations in (0, 1, 3):
            grown(cells, LIFE, generations)
            self.assertEqual(cells, [(2, 1), (0, 5), (2, 1)])
        still = [(0, 0), (0, 1), (1, 0), (1, 1)]
        for generations in (0, 1):
            found = grown(still, LIFE, generations)
            self.assertEqual(found, still)
            self.assertIsNot(found, still)

    def test_order_and_repeats_of_the_passed_cells_do_not_count(self):
        mixed = [GLIDER[at] for at in (3, 1, 4, 1, 0, 2, 3)]
        for generations in range(6):
            self.assertEqual(grown(mixed, LIFE, generations), grown(GLIDER, LIFE, generations))

    def test_every_count_for_dead_and_living_cells(self):
        around = [(rows, columns) for rows in (-1, 0, 1) for columns in (-1, 0, 1) if (rows, columns) != (0, 0)]
        for number in range(256):
            cells = [cell for at, cell in enumerate(around) if number >> at & 1]
            for start in (cells, cells + [(0, 0)]):
                for string in ("B1/S0", "B2/S1", "B3/S2", "B4/S3", "B5/S4", "B6/S5", "B7/S6", "B8/S7", "B/S8"):
                    rule = read_rule(string)
                    self.assertEqual(grown(start, rule, 1), plain_next(start, rule.births, rule.survival))

    def test_rules_against_a_plain_count(self):
        for at, string in enumerate(RULES):
            with self.subTest(rule=string):
                self.check_plainly(soup(at, 9, 12, 40), read_rule(string), 5)
                self.check_plainly([(0, 0)], read_rule(string), 4)

    def test_many_rules_against_a_plain_count(self):
        chance = random.Random(9)
        for seed in range(60):
            births = [number for number in range(1, 9) if chance.randrange(2)]
            survival = [number for number in range(9) if chance.randrange(2)]
            self.check_plainly(soup(seed, 6, 6, 50), Rule(births, survival), 3)

    def test_patterns_over_several_strips(self):
        for string in ("B3/S23", "B2/S", "B1/S012345678", "B36/S125"):
            rule = read_rule(string)
            edge = WIDTH - 6
            parts = moved(soup(3, 8, 40, 40), 0, edge - 20) + moved(soup(4, 8, 40, 40), 2, 2 * edge - 20)
            self.check_plainly([(0, 0)] + parts, rule, 6)

    def test_a_row_through_several_strips(self):
        line = [(4, column) for column in range(-WIDTH - 9, 2 * WIDTH + 9)]
        self.check_plainly(line, LIFE, 3)
        self.check_plainly(line, read_rule("B123/S2"), 2)

    def test_growth_over_each_edge_of_a_strip(self):
        rule = read_rule("B1/S012345678")
        for column in range(WIDTH - 8, WIDTH + 8):
            self.check_plainly([(0, 0), (0, column), (9, column)], rule, 4)

    def test_negative_places(self):
        self.check_plainly(moved(soup(5, 10, 10, 40), -7, -13), LIFE, 5)
        self.check_plainly(moved(soup(5, 10, 10, 40), -WIDTH, -WIDTH - 3), LIFE, 5)

    def test_patterns_far_away(self):
        cells = soup(6, 10, 10, 40)
        for rows, columns in ((FAR - 50, FAR - 50), (-FAR, -FAR), (50 - FAR, FAR - 50), (FAR - 50, -FAR)):
            for generations in (1, 7, 30):
                expected = moved(grown(cells, LIFE, generations), rows, columns)
                self.assertEqual(grown(moved(cells, rows, columns), LIFE, generations), expected)

    def test_parts_far_from_each_other(self):
        places = [(-FAR + 9, -FAR + 9), (-FAR + 9, FAR - 9), (0, 0), (FAR - 9, -FAR + 9), (FAR - 9, FAR - 9)]
        cells = [cell for rows, columns in places for cell in moved(GLIDER, rows, columns)]
        after = [cell for rows, columns in places for cell in moved(GLIDER, rows + 1, columns + 1)]
        self.assertEqual(grown(cells, LIFE, 4), pattern(after))

    def test_1000_generations(self):
        self.assertEqual(grown(GLIDER, LIFE, 1000), moved(GLIDER, 250, 250))
        self.assertEqual(grown([(0, 0), (0, 1), (0, 2)], LIFE, 999), [(-1, 1), (0, 1), (1, 1)])
        self.assertEqual(grown([(-5, 7)], read_rule("B/S0"), 1000), [(-5, 7)])
        self.assertEqual(grown([(0, 0)], read_rule("B/S1"), 1000), [])
        # In the generation 2^n, a single cell of the rule of odd numbers has come to stand at nine places.
        self.assertEqual(grown([(0, 0)], read_rule("B1357/S02468"), 512),
                         [(row, column) for row in (-512, 0, 512) for column in (-512, 0, 512)])

    def test_a_long_life_in_parts(self):
        methuselah = read_picture([".OO", "OO.", ".O."])
        once = grown(methuselah, LIFE, 1000)
        parts = methuselah
        for _ in range(10):
            parts = grown(parts, LIFE, 100)
        self.assertEqual(once, parts)
        # What is known of this pattern: 116 cells are alive from the generation 1103 on.
        self.assertEqual(len(grown(once, LIFE, 103)), 116)
        self.assertEqual(len(grown(once, LIFE, 104)), 116)

    def test_1000_generations_in_good_time(self):
        began = time.monotonic()
        grown(soup(7, 60, 60, 40), LIFE, 1000)
        filled = grown([(0, 0)], read_rule("B12345678/S012345678"), 600)
        self.assertEqual(len(filled), 1201 * 1201)
        burst = grown(read_picture(["OO", "O.", ".O"]), read_rule("B2/S"), 1000)
        self.assertGreater(len(burst), 300000)
        self.assertLess(time.monotonic() - began, 120)


if __name__ == "__main__":
    unittest.main()
