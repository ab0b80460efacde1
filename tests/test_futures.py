import random
import time
import unittest

from longlife.patterns import grown, moved
from longlife.rules import Rule, read_rule
from longlife.squares import Store
from plain import GLIDER, RULES, plainly_grown, soup

LIFE = read_rule("B3/S23")


def inner(cells, level):
    """The cells of the middle of a square of this level, from 0 on."""
    quarter = 2 ** (level - 2)
    return [(row - quarter, column - quarter) for row, column in cells
            if quarter <= row < 3 * quarter and quarter <= column < 3 * quarter]


def with_cells_around(seed, cells, level, wide):
    """The cells of a square and others outside of it."""
    size = 2 ** level
    around = [(row - wide, column - wide) for row, column in soup(seed, size + 2 * wide, size + 2 * wide, 40)]
    return cells + [(row, column) for row, column in around if not (0 <= row < size and 0 <= column < size)]


class MiddleTest(unittest.TestCase):
    def test_middles(self):
        store = Store(LIFE)
        for level in range(2, 9):
            for seed in range(5):
                cells = soup(seed, 2 ** level, 2 ** level, 30)
                square = store.middle(store.built(cells, level))
                self.assertEqual(store.cells(square), inner(cells, level))
                self.assertEqual(store.level(square), level - 1)
                self.assertEqual(square, store.built(inner(cells, level), level - 1))

    def test_the_edges_of_middles(self):
        store = Store(LIFE)
        for level in range(2, 61):
            quarter = 2 ** (level - 2)
            for inside in ((quarter, quarter), (3 * quarter - 1, quarter), (quarter, 3 * quarter - 1)):
                square = store.middle(store.built([inside], level))
                self.assertEqual(store.cells(square), [(inside[0] - quarter, inside[1] - quarter)])
            for outside in ((quarter - 1, quarter), (3 * quarter, quarter), (quarter, quarter - 1),
                            (2 * quarter, 3 * quarter), (0, 0), (4 * quarter - 1, 4 * quarter - 1)):
                self.assertEqual(store.middle(store.built([outside], level)), store.empty(level - 1))

    def test_middles_of_empty_squares(self):
        store = Store(LIFE)
        for level in range(2, 61):
            self.assertEqual(store.middle(store.empty(level)), store.empty(level - 1))


class FutureTest(unittest.TestCase):
    def check(self, rule, seed, level, percent):
        """Each future of a square, held against the plain rule with any cells around."""
        cells = soup(seed, 2 ** level, 2 ** level, percent)
        store = Store(rule)
        square = store.built(cells, level)
        js = list(range(level - 1))
        living = with_cells_around(seed + 1, cells, level, 3)
        after = {}
        for j in js:
            living = plainly_grown(living, rule, 1 if j == 0 else 2 ** (j - 1))
            after[j] = living
        random.Random(seed).shuffle(js)
        for j in js:
            future = store.future(square, j)
            expected = inner(after[j], level)
            self.assertEqual(store.cells(future), expected, (rule.births, rule.survival, level, j))
            self.assertEqual(store.level(future), level - 1)
            self.assertEqual(future, store.built(expected, level - 1))
            self.assertEqual(store.future(square, j), future)
        self.assertEqual(store.cells(square), cells)

    def test_all_squares_of_level_2_around_one_cell(self):
        rule = read_rule("B36/S125")
        store = Store(rule)
        for number in range(512):
            cells = [(at // 3, at % 3) for at in range(9) if number >> at & 1]
            found = store.cells(store.future(store.built(cells, 2), 0))
            self.assertEqual(found, inner(plainly_grown(with_cells_around(number, cells, 2, 2), rule, 1), 2))

    def test_rules_with_small_squares(self):
        for at, string in enumerate(RULES):
            for level in (2, 3, 4):
                for percent in (15, 50, 85):
                    self.check(read_rule(string), at + percent, level, percent)

    def test_any_rules(self):
        chance = random.Random(4)
        for seed in range(40):
            births = [number for number in range(1, 9) if chance.randrange(2)]
            survival = [number for number in range(9) if chance.randrange(2)]
            self.check(Rule(births, survival), seed, 2 + seed % 4, 40)

    def test_squares_of_level_5(self):
        for at, string in enumerate(["B3/S23", "B12345678/S012345678", "B1/S012345678", "B36/S125", "B2/S"]):
            self.check(read_rule(string), at, 5, 35)

    def test_squares_of_level_6(self):
        for at, string in enumerate(["B3/S23", "B1357/S02468", "B3678/S34678", "B2/S"]):
            self.check(read_rule(string), at, 6, 35)

    def test_a_square_of_level_7(self):
        self.check(read_rule("B36/S125"), 8, 7, 50)

    def test_squares_of_level_8_and_9(self):
        for level in (8, 9):
            cells = soup(level, 2 ** level, 2 ** level, 25)
            store = Store(LIFE)
            square = store.built(cells, level)
            around = with_cells_around(level, cells, level, 2)
            for j in range(level - 1):
                expected = inner(grown(around, LIFE, 2 ** j), level)
                self.assertEqual(store.cells(store.future(square, j)), expected)

    def test_full_squares(self):
        for string in ("B3/S23", "B8/S8", "B12345678/S012345678", "B1/S01234567", "B7/S5"):
            for level in (2, 3, 5, 6):
                self.check(read_rule(string), 1, level, 100)

    def test_futures_of_empty_squares(self):
        for string in ("B3/S23", "B12345678/S012345678"):
            store = Store(read_rule(string))
            for level in range(2, 61):
                for j in range(level - 1):
                    self.assertEqual(store.future(store.empty(level), j), store.empty(level - 1))

    def test_cells_at_the_edge_reach_just_the_middle(self):
        rule = read_rule("B1/S")
        for level in range(2, 10):
            store = Store(rule)
            square = store.built([(0, 0)], level)
            self.assertEqual(store.cells(store.future(square, level - 2)), [(0, 0)])
            for j in range(level - 2):
                self.assertEqual(store.cells(store.future(square, j)), [])

    def test_the_largest_squares(self):
        store = Store(LIFE)
        middle = 2 ** 59
        square = store.built(moved(GLIDER, middle, middle), 60)
        for j in (0, 1, 2, 5, 40, 57, 58):
            along = 2 ** j // 4
            expected = moved(plainly_grown(GLIDER, LIFE, 2 ** j % 4), middle // 2 + along, middle // 2 + along)
            self.assertEqual(store.cells(store.future(square, j)), expected)

    def test_futures_of_level_60_over_long_times(self):
        store = Store(read_rule("B/S0"))
        cells = [(2 ** 58, 2 ** 58), (3 * 2 ** 58 - 1, 2 ** 58), (3 * 2 ** 58, 2 ** 59), (2 ** 59, 2 ** 58 - 1)]
        square = store.built(cells, 60)
        for j in (0, 3, 30, 58):
            self.assertEqual(store.cells(store.future(square, j)), [(0, 0), (2 ** 59 - 1, 0)])

    def test_large_futures_in_good_time(self):
        began = time.monotonic()
        store = Store(LIFE)
        corner = 2 ** 15 - 50
        square = store.built(moved(soup(2, 100, 100, 40), corner, corner), 16)
        parts = store.cells(store.future(square, 12))
        padded = store.built(moved(parts, 2 ** 14, 2 ** 14), 16)
        whole = store.cells(store.future(square, 13))
        self.assertEqual(store.cells(store.future(padded, 12)), whole)
        self.assertLess(time.monotonic() - began, 60)


if __name__ == "__main__":
    unittest.main()
