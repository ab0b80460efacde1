"""Points 27, 28 and 29: patterns on rings, their fates, and unrolled rings."""

import itertools
import random
import time
import unittest

from longlife.patterns import grown, moved
from longlife.rings import ring_fate, ring_grown, ring_next, unrolled
from longlife.rules import read_rule
from plain import BLOCK, GLIDER, RULES, random_rule, soup

LIFE = read_rule("B3/S23")
AROUND = [(-1, -1), (-1, 0), (-1, 1), (0, -1), (0, 1), (1, -1), (1, 0), (1, 1)]


def plain_ring_next(cells, rule, height, width):
    """The next generation, with the eight places of each cell counted one by one."""
    alive = set(cells)
    after = []
    for row, column in itertools.product(range(height), range(width)):
        count = 0
        for down, beside in AROUND:
            if ((row + down) % height, (column + beside) % width) in alive:
                count += 1
        if count in (rule.survival if (row, column) in alive else rule.births):
            after.append((row, column))
    return after


def plain_ring_fate(cells, rule, height, width, bound):
    seen = [sorted(set(cells))]
    for generation in range(1, bound + 1):
        later = plain_ring_next(seen[-1], rule, height, width)
        if later in seen:
            return seen.index(later), generation - seen.index(later)
        seen.append(later)
    return None


class RingNextTest(unittest.TestCase):
    def test_all_patterns_on_small_rings(self):
        rules = [read_rule(text) for text in ("B3/S23", "B1/S8", "B2/S", "B6/S2", "B3/S5", "B8/S8", "B1357/S02468")]
        for height, width in ((1, 1), (1, 2), (2, 1), (1, 3), (3, 1), (2, 2), (2, 3), (3, 2), (1, 6), (3, 3)):
            places = list(itertools.product(range(height), range(width)))
            for rule in rules:
                for bits in range(1 << len(places)):
                    cells = [place for at, place in enumerate(places) if bits >> at & 1]
                    self.assertEqual(ring_next(cells, rule, height, width),
                                     plain_ring_next(cells, rule, height, width))

    def test_a_cell_that_is_several_times_its_own_neighbour(self):
        # On a ring of one cell, all eight neighbours are the cell itself.
        for number in range(9):
            rule = read_rule(f"B/S{number}")
            self.assertEqual(ring_next([(0, 0)], rule, 1, 1), [(0, 0)] if number == 8 else [])
            # In one row of three or more, the cell is above and below itself.
            self.assertEqual(ring_next([(0, 1)], rule, 1, 4), [(0, 1)] if number == 2 else [])
            self.assertEqual(ring_next([(1, 0)], rule, 4, 1), [(1, 0)] if number == 2 else [])
            # In two rows and two columns, it is not its own neighbour.
            self.assertEqual(ring_next([(0, 0)], rule, 2, 2), [(0, 0)] if number == 0 else [])
            # In one row of two, it is above and below itself.
            self.assertEqual(ring_next([(0, 0)], rule, 1, 2), [(0, 0)] if number == 2 else [])

    def test_a_cell_that_is_several_times_a_neighbour(self):
        for number in range(1, 9):
            rule = read_rule(f"B{number}/S")
            # Two rows and two columns: the other cell of the row and of the column twice, that across four times.
            expected = {2: [(0, 1), (1, 0)], 4: [(1, 1)]}.get(number, [])
            self.assertEqual(ring_next([(0, 0)], rule, 2, 2), expected)
            # One row of two: the other cell stands on both sides, in three rows.
            self.assertEqual(ring_next([(0, 0)], rule, 1, 2), [(0, 1)] if number == 6 else [])
            self.assertEqual(ring_next([(0, 0)], rule, 2, 1), [(1, 0)] if number == 6 else [])
            self.assertEqual(ring_next([(0, 2)], rule, 1, 5), [(0, 1), (0, 3)] if number == 3 else [])
            self.assertEqual(ring_next([(0, 0)], rule, 1, 5), [(0, 1), (0, 4)] if number == 3 else [])
            self.assertEqual(ring_next([(4, 0)], rule, 5, 1), [(0, 0), (3, 0)] if number == 3 else [])

    def test_larger_rings(self):
        chance = random.Random(27)
        for rule in [read_rule(text) for text in RULES] + [random_rule(chance) for _ in range(10)]:
            for height, width in ((20, 20), (1, 20), (20, 1), (2, 19), (19, 2), (7, 13), (3, 20), (5, 4)):
                cells = soup(chance.randrange(1000), height, width, chance.choice((10, 30, 50, 90)))
                self.assertEqual(ring_next(cells, rule, height, width), plain_ring_next(cells, rule, height, width))

    def test_over_each_edge(self):
        for row, column in itertools.product(range(4), range(5)):
            expected = sorted(((row + down) % 4, (column + beside) % 5) for down, beside in AROUND)
            self.assertEqual(ring_next([(row, column)], read_rule("B1/S"), 4, 5), expected)

    def test_any_order_and_several_times(self):
        cells = [(2, 2), (0, 0), (2, 2), (0, 1), (2, 2)]
        self.assertEqual(ring_next(cells, LIFE, 3, 3), plain_ring_next(cells, LIFE, 3, 3))
        self.assertEqual(cells, [(2, 2), (0, 0), (2, 2), (0, 1), (2, 2)])

    def test_the_empty_pattern(self):
        for text in RULES:
            self.assertEqual(ring_next([], read_rule(text), 3, 4), [])

    def test_somewhat_beyond_the_limits(self):
        cells = soup(3, 30, 41, 40)
        self.assertEqual(ring_next(cells, LIFE, 30, 41), plain_ring_next(cells, LIFE, 30, 41))
        self.assertEqual(ring_next([], LIFE, 0, 3), [])
        self.assertEqual(ring_next([], LIFE, 3, 0), [])
        self.assertEqual(ring_next([(3, 4), (0, 0), (-1, -1)], LIFE, 3, 4),
                         plain_ring_next([(0, 0), (2, 3)], LIFE, 3, 4))


class RingFateTest(unittest.TestCase):
    def test_against_the_plain_fate(self):
        chance = random.Random(28)
        starts, none = [], 0
        for rule in [read_rule(text) for text in RULES] + [random_rule(chance) for _ in range(20)]:
            for height, width in ((1, 1), (1, 7), (2, 2), (3, 3), (4, 5), (6, 6), (7, 8)):
                cells = soup(chance.randrange(1000), height, width, 40)
                fate = plain_ring_fate(cells, rule, height, width, 50)
                self.assertEqual(ring_fate(cells, rule, height, width, 50), fate)
                if fate is None:
                    none += 1
                else:
                    starts.append(fate[0])
                    self.assertIs(type(fate), tuple)
                    self.check_bounds(cells, rule, height, width, fate)
        self.assertGreater(none, 0)
        self.assertGreater(len([start for start in starts if start > 1]), 20)
        self.assertIn(0, starts)

    def check_bounds(self, cells, rule, height, width, fate):
        """The fate is found from its first repetition on, and not before."""
        first = sum(fate)
        for bound in (first, first + 1, 5000):
            self.assertEqual(ring_fate(cells, rule, height, width, bound), fate)
        if first > 1:
            self.assertIsNone(ring_fate(cells, rule, height, width, first - 1))
            self.assertIsNone(ring_fate(cells, rule, height, width, 1))

    def test_patterns_that_die(self):
        self.assertEqual(ring_fate([(0, 0)], LIFE, 5, 5, 2), (1, 1))
        self.assertIsNone(ring_fate([(0, 0)], LIFE, 5, 5, 1))
        self.assertEqual(ring_fate([], LIFE, 5, 5, 1), (0, 1))
        self.assertEqual(ring_fate([(0, 0), (0, 1), (1, 2)], LIFE, 9, 9, 9), (2, 1))

    def test_known_ones(self):
        self.assertEqual(ring_fate(moved(BLOCK, 3, 3), LIFE, 9, 9, 9), (0, 1))
        self.assertEqual(ring_fate([(1, 0), (1, 1), (1, 2)], LIFE, 8, 8, 2), (0, 2))
        self.assertIsNone(ring_fate([(1, 0), (1, 1), (1, 2)], LIFE, 8, 8, 1))
        # A glider goes round: moved back to where it was, it is the same, but not before.
        self.assertEqual(ring_fate(GLIDER, LIFE, 20, 20, 5000), (0, 80))
        self.assertEqual(ring_fate(GLIDER, LIFE, 20, 20, 80), (0, 80))
        self.assertIsNone(ring_fate(GLIDER, LIFE, 20, 20, 79))
        self.assertEqual(ring_fate(GLIDER, LIFE, 10, 15, 5000), (0, 120))

    def test_large_rings_over_many_generations(self):
        start = time.process_time()
        cells = soup(7, 20, 20, 40)
        for text in ("B3/S23", "B2/S", "B36/S125", "B1357/S02468", "B3678/S34678"):
            rule = read_rule(text)
            fate = ring_fate(cells, rule, 20, 20, 5000)
            if fate is not None:
                at_start = ring_grown(cells, rule, 20, 20, fate[0])
                self.assertEqual(ring_grown(cells, rule, 20, 20, sum(fate)), at_start)
        self.assertLess(time.process_time() - start, 20)

    def test_any_order_and_several_times(self):
        cells = [(1, 2), (1, 0), (1, 1), (1, 0)]
        self.assertEqual(ring_fate(cells, LIFE, 8, 8, 9), (0, 2))
        self.assertEqual(cells, [(1, 2), (1, 0), (1, 1), (1, 0)])

    def test_somewhat_beyond_the_limits(self):
        self.assertEqual(ring_fate(GLIDER, LIFE, 25, 23, 10000), (0, 2300))
        self.assertIsNone(ring_fate([(0, 0)], LIFE, 3, 3, 0))


class RingGrownTest(unittest.TestCase):
    def test_one_generation_after_the_other(self):
        chance = random.Random(2828)
        for rule in [read_rule(text) for text in RULES] + [random_rule(chance) for _ in range(10)]:
            for height, width in ((1, 1), (1, 7), (2, 2), (5, 3), (6, 6)):
                cells = soup(chance.randrange(1000), height, width, 40)
                plain = cells
                for generation in range(25):
                    self.assertEqual(ring_grown(cells, rule, height, width, generation), plain)
                    plain = plain_ring_next(plain, rule, height, width)

    def test_none_is_the_pattern_itself(self):
        cells = [(2, 1), (0, 3), (2, 1)]
        self.assertEqual(ring_grown(cells, LIFE, 4, 4, 0), [(0, 3), (2, 1)])
        self.assertEqual(cells, [(2, 1), (0, 3), (2, 1)])
        self.assertEqual(ring_grown([], LIFE, 4, 4, 0), [])

    def test_up_to_very_many_generations(self):
        chance = random.Random(282828)
        seen = []
        for rule in [read_rule(text) for text in RULES] + [random_rule(chance) for _ in range(10)]:
            for height, width in ((1, 5), (3, 3), (4, 5), (6, 6), (5, 7)):
                cells = soup(chance.randrange(1000), height, width, 40)
                fate = plain_ring_fate(cells, rule, height, width, 300)
                if fate is None:
                    continue
                start, period = fate
                seen.append(fate)
                plain = [cells]
                for _ in range(start + period):
                    plain.append(plain_ring_next(plain[-1], rule, height, width))
                for many in (start, start + 1, start + period - 1, start + period, start + period + 1, 5000,
                             2 ** 40 - 1, 2 ** 40, chance.randrange(2 ** 40)):
                    at = many if many < start else start + (many - start) % period
                    self.assertEqual(ring_grown(cells, rule, height, width, many), plain[at])
        self.assertGreater(len([fate for fate in seen if fate[0] > 0 and fate[1] > 1]), 10)

    def test_a_glider_that_goes_round(self):
        self.assertEqual(ring_grown(GLIDER, LIFE, 20, 20, 2 ** 40),
                         sorted(((row + 4) % 20, (column + 4) % 20) for row, column in GLIDER))
        self.assertEqual(2 ** 40 % 80, 16)

    def test_five_thousand_generations_without_repetition(self):
        # A pattern that does not repeat within them, held against the endless floor that it is cut out of.
        rule = read_rule("B2/S")
        cells = soup(11, 20, 20, 30)
        start = time.process_time()
        self.assertIsNone(ring_fate(cells, rule, 20, 20, 5000))
        late = ring_grown(cells, rule, 20, 20, 5000)
        self.assertEqual(late, plain_ring_next(ring_grown(cells, rule, 20, 20, 4999), rule, 20, 20))
        self.assertLess(time.process_time() - start, 20)

    def test_somewhat_beyond_the_limits(self):
        cells = soup(12, 20, 20, 30)
        late = ring_grown(cells, read_rule("B2/S"), 20, 20, 6000)
        self.assertEqual(ring_next(late, read_rule("B2/S"), 20, 20), ring_grown(cells, read_rule("B2/S"), 20, 20, 6001))
        self.assertEqual(ring_grown(GLIDER, LIFE, 20, 20, 2 ** 41 + 80), ring_grown(GLIDER, LIFE, 20, 20, 2 ** 41 % 80))


class UnrolledTest(unittest.TestCase):
    def test_rows_and_columns_of_copies(self):
        self.assertEqual(unrolled([(0, 0), (1, 2)], 2, 3, 1, 1), [(0, 0), (1, 2)])
        self.assertEqual(unrolled([(0, 0), (1, 2)], 2, 3, 2, 1), [(0, 0), (1, 2), (2, 0), (3, 2)])
        self.assertEqual(unrolled([(0, 0), (1, 2)], 2, 3, 1, 2), [(0, 0), (0, 3), (1, 2), (1, 5)])
        self.assertEqual(unrolled([(1, 0)], 3, 5, 2, 3), [(1, 0), (1, 5), (1, 10), (4, 0), (4, 5), (4, 10)])
        self.assertEqual(unrolled([], 2, 3, 4, 5), [])
        self.assertEqual(unrolled([(0, 0)], 1, 1, 2, 3), [(0, 0), (0, 1), (0, 2), (1, 0), (1, 1), (1, 2)])

    def test_each_cell_of_each_copy(self):
        cells = soup(29, 4, 6, 40)
        for rows, columns in ((1, 1), (3, 2), (2, 5), (7, 1)):
            expected = {(row + down * 4, column + beside * 6) for row, column in cells
                        for down in range(rows) for beside in range(columns)}
            self.assertEqual(unrolled(cells, 4, 6, rows, columns), sorted(expected))

    def test_any_order_and_several_times(self):
        cells = [(1, 1), (0, 0), (1, 1)]
        self.assertEqual(unrolled(cells, 2, 2, 1, 2), [(0, 0), (0, 2), (1, 1), (1, 3)])
        self.assertEqual(cells, [(1, 1), (0, 0), (1, 1)])

    def check_middle(self, cells, rule, height, width, many):
        """The copy in the middle of many rows and columns, on the endless floor, is the same as the ring."""
        floor = unrolled(cells, height, width, many, many)
        top, left = (many - 1) // 2 * height, (many - 1) // 2 * width
        for generation in range((many - 1) // 2 * min(height, width) + 1):
            middle = [(row - top, column - left) for row, column in grown(floor, rule, generation)
                      if 0 <= row - top < height and 0 <= column - left < width]
            self.assertEqual(middle, ring_grown(cells, rule, height, width, generation))

    def test_the_copy_in_the_middle_against_the_endless_floor(self):
        chance = random.Random(29)
        for rule in [read_rule(text) for text in RULES] + [random_rule(chance) for _ in range(6)]:
            for height, width, many in ((1, 1, 5), (1, 2, 5), (2, 2, 3), (3, 2, 5), (4, 7, 3), (5, 5, 3), (6, 3, 1)):
                self.check_middle(soup(chance.randrange(1000), height, width, 50), rule, height, width, many)

    def test_the_copy_in_the_middle_of_a_large_ring(self):
        for text in ("B3/S23", "B2/S"):
            self.check_middle(soup(31, 20, 18, 35), read_rule(text), 20, 18, 3)

    def test_large_numbers_of_copies(self):
        self.assertEqual(len(unrolled(soup(1, 20, 20, 50), 20, 20, 15, 20)), 300 * len(soup(1, 20, 20, 50)))


if __name__ == "__main__":
    unittest.main()
