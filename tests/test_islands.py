"""Points 21, 22 and 23: images and forms of patterns, their islands, and the census."""

import itertools
import random
import time
import unittest

from longlife.islands import census, images, islands, least_form, symmetries
from longlife.patterns import grown, home, mirrored, moved, read_text, turned, write_text
from longlife.rules import read_rule
from plain import BLINKER, BLOCK, FAR, GLIDER, RULES, soup

# An F has no symmetry, and an L of two equal arms has one mirror.
F = [(0, 1), (0, 2), (1, 0), (1, 1), (2, 1)]
# Patterns by the number of their symmetries.
BY_SYMMETRIES = {
    1: [F, [(0, 0), (1, 0), (2, 0), (2, 1)], GLIDER[:4] + [(3, 4)], [(0, 0), (1, 2), (5, 3), (7, 7)]],
    2: [[(0, 0), (1, 0), (1, 1)], [(0, 0), (0, 1), (0, 2), (1, 1)], [(0, 0), (1, 0), (1, 1), (2, 1)],
        [(0, 0), (0, 1), (0, 3), (0, 4), (1, 2)], [(0, 0), (0, 1), (1, 1), (1, 2)]],
    4: [[(0, 0), (0, 1)], BLINKER, [(0, 0), (1, 1)], [(0, 0), (0, 2), (1, 1), (2, 0), (2, 2), (1, 3), (1, -1)],
        [(0, 1), (1, 3), (3, 2), (2, 0)]],
    8: [[], [(0, 0)], BLOCK, [(0, 1), (1, 0), (1, 1), (1, 2), (2, 1)], [(0, 0), (0, 2), (2, 0), (2, 2)]],
}


def plain_images(cells):
    """The eight images, each by its own formula."""
    formulas = [lambda r, c: (r, c), lambda r, c: (c, -r), lambda r, c: (-r, -c), lambda r, c: (-c, r),
                lambda r, c: (r, -c), lambda r, c: (-c, -r), lambda r, c: (-r, c), lambda r, c: (c, r)]
    return [sorted({formula(row, column) for row, column in cells}) for formula in formulas]


def plain_home(cells):
    if not cells:
        return []
    top = min(row for row, _ in cells)
    left = min(column for _, column in cells)
    return sorted({(row - top, column - left) for row, column in cells})


def plain_islands(cells):
    """Islands that are put together as long as two of them have near cells."""
    parts = [[cell] for cell in sorted(set(cells))]
    together = True
    while together:
        together = False
        for first, second in itertools.combinations(range(len(parts)), 2):
            if any(abs(a[0] - b[0]) <= 2 and abs(a[1] - b[1]) <= 2 for a in parts[first] for b in parts[second]):
                parts[first] = sorted(parts[first] + parts.pop(second))
                together = True
                break
    return sorted(parts)


class ImagesTest(unittest.TestCase):
    def test_their_order(self):
        self.assertEqual(images([(1, 2), (5, 10)]), [
            [(1, 2), (5, 10)], [(2, -1), (10, -5)], [(-5, -10), (-1, -2)], [(-10, 5), (-2, 1)],
            [(1, -2), (5, -10)], [(-10, -5), (-2, -1)], [(-5, 10), (-1, 2)], [(2, 1), (10, 5)]])

    def test_they_are_turned_and_mirrored(self):
        for seed in range(30):
            cells = moved(soup(seed, 1 + seed % 5, 1 + seed % 7, 40), seed - 15, 3 * seed - 40)
            found = images(cells)
            self.assertEqual(found, plain_images(cells))
            for start in (0, 4):
                for at in range(start, start + 3):
                    self.assertEqual(found[at + 1], turned(found[at]))
                self.assertEqual(found[start], turned(found[start + 3]))
            self.assertEqual(found[4], mirrored(found[0]))

    def test_any_order_and_several_times(self):
        self.assertEqual(images([(5, 1), (0, 0), (5, 1)]), plain_images([(0, 0), (5, 1)]))
        self.assertEqual(images([]), [[]] * 8)

    def test_they_are_new_lists(self):
        cells = [(0, 0), (0, 1)]
        found = images(cells)
        for image in found:
            image.append("other")
        self.assertEqual(cells, [(0, 0), (0, 1)])
        self.assertEqual([len(image) for image in found], [3] * 8)

    def test_far_away(self):
        self.assertEqual(images([(FAR, -FAR)]), plain_images([(FAR, -FAR)]))


class LeastFormTest(unittest.TestCase):
    def test_the_least_of_the_home_forms(self):
        chance = random.Random(21)
        for seed in range(60):
            cells = soup(seed, 1 + seed % 4, 1 + seed % 6, 30 + seed)
            least = least_form(cells)
            homes = [plain_home(image) for image in plain_images(cells)]
            self.assertIn(least, homes)
            self.assertTrue(all(least <= other for other in homes))
            for image in images(cells):
                self.assertEqual(least_form(moved(image, chance.randrange(-99, 99), chance.randrange(-99, 99))), least)

    def test_compared_as_lists(self):
        self.assertEqual(least_form([(3, 0), (4, 0), (5, 0)]), [(0, 0), (0, 1), (0, 2)])
        self.assertEqual(least_form([(7, 7), (8, 7), (8, 8)]), [(0, 0), (0, 1), (1, 0)])
        self.assertEqual(least_form(GLIDER), [(0, 0), (0, 1), (0, 2), (1, 0), (2, 1)])
        self.assertEqual(least_form(F), min([plain_home(image) for image in plain_images(F)]))
        self.assertEqual(least_form([(0, 5), (2, 0)]), [(0, 0), (2, 5)])
        self.assertEqual(least_form([(0, 0), (2, 1), (9, 9)]), [(0, 0), (1, 2), (9, 9)])

    def test_special_ones(self):
        self.assertEqual(least_form([]), [])
        self.assertEqual(least_form([(FAR, FAR)]), [(0, 0)])
        self.assertEqual(least_form([(4, 4), (-FAR, 4), (4, 4)]), [(0, 0), (0, FAR + 4)])

    def test_the_argument_stays_as_it_is(self):
        cells = [(9, 9), (3, 4), (9, 9)]
        for function in (images, least_form, symmetries, islands, census):
            function(cells)
            self.assertEqual(cells, [(9, 9), (3, 4), (9, 9)])


class SymmetriesTest(unittest.TestCase):
    def test_by_their_number(self):
        for number, patterns in BY_SYMMETRIES.items():
            for cells in patterns:
                for image in images(cells):
                    self.assertEqual(symmetries(moved(image, -7, 12)), number, cells)

    def test_against_the_home_forms(self):
        seen = set()
        for height, width in ((1, 3), (2, 2), (2, 3), (3, 3)):
            places = list(itertools.product(range(height), range(width)))
            for bits in range(1 << len(places)):
                cells = [place for at, place in enumerate(places) if bits >> at & 1]
                number = [plain_home(image) for image in plain_images(cells)].count(plain_home(cells))
                self.assertEqual(symmetries(cells), number)
                seen.add(number)
        self.assertEqual(seen, {1, 2, 4, 8})

    def test_any_order_and_several_times(self):
        self.assertEqual(symmetries([(5, 5), (5, 4), (5, 5), (5, 3)]), 4)


class IslandsTest(unittest.TestCase):
    def test_just_near_and_just_not_near(self):
        for rows in range(-4, 5):
            for columns in range(-4, 5):
                if (rows, columns) == (0, 0):
                    continue
                cells = sorted([(10, 20), (10 + rows, 20 + columns)])
                near = abs(rows) <= 2 and abs(columns) <= 2
                self.assertEqual(islands(cells), [cells] if near else [[cell] for cell in cells])

    def test_joined_over_a_third_one(self):
        self.assertEqual(islands([(0, 0), (0, 4)]), [[(0, 0)], [(0, 4)]])
        self.assertEqual(islands([(0, 0), (0, 2), (0, 4)]), [[(0, 0), (0, 2), (0, 4)]])
        self.assertEqual(islands([(0, 0), (2, 2), (0, 4)]), [[(0, 0), (0, 4), (2, 2)]])
        self.assertEqual(islands([(0, 0), (-2, 2), (0, 4)]), [[(-2, 2), (0, 0), (0, 4)]])
        self.assertEqual(islands([(0, 0), (3, 2), (0, 4)]), [[(0, 0)], [(0, 4)], [(3, 2)]])
        chain = [(2 * step, -2 * step) for step in range(50)]
        self.assertEqual(islands(chain), [chain])

    def test_their_order_is_that_of_their_first_cells(self):
        # The second island has cells before and behind those of the first one.
        cells = [(0, 9), (2, 9), (4, 9), (1, 0), (3, 0), (0, 20)]
        self.assertEqual(islands(cells), [[(0, 9), (2, 9), (4, 9)], [(0, 20)], [(1, 0), (3, 0)]])
        self.assertEqual(islands([(5, -9), (-5, 9), (0, 0)]), [[(-5, 9)], [(0, 0)], [(5, -9)]])
        inner = [(5, 5)]
        outer = [(row, column) for row in range(0, 11, 2) for column in range(0, 11, 2)
                 if row in (0, 10) or column in (0, 10)]
        self.assertEqual(islands(inner + outer), [outer, inner])

    def test_against_putting_parts_together(self):
        for seed in range(40):
            cells = moved(soup(seed, 12, 12, 3 + seed % 20), seed - 20, 20 - seed)
            self.assertEqual(islands(cells), plain_islands(cells))

    def test_any_order_and_several_times(self):
        cells = [(9, 9), (0, 0), (1, 2), (0, 0), (9, 9)]
        self.assertEqual(islands(cells), [[(0, 0), (1, 2)], [(9, 9)]])

    def test_the_next_generation_is_that_of_the_islands_together(self):
        for text in RULES:
            rule = read_rule(text)
            for seed in range(8):
                cells = soup(seed, 20, 20, 8)
                parts = islands(cells)
                self.assertGreater(len(parts), 1)
                together = set()
                for island in parts:
                    together.update(grown(island, rule, 1))
                self.assertEqual(sorted(together), grown(cells, rule, 1))

    def test_special_ones(self):
        self.assertEqual(islands([]), [])
        self.assertEqual(islands([(FAR, FAR), (-FAR, -FAR)]), [[(-FAR, -FAR)], [(FAR, FAR)]])

    def test_large_patterns(self):
        start = time.process_time()
        square = [(row, column) for row in range(200) for column in range(200)]
        self.assertEqual(islands(square), [square])
        dots = [(3 * row, 3 * column) for row in range(100) for column in range(100)]
        self.assertEqual(islands(dots), [[dot] for dot in dots])
        self.assertLess(time.process_time() - start, 20)


class CensusTest(unittest.TestCase):
    def test_images_are_counted_together(self):
        cells = []
        for at, image in enumerate(images(GLIDER)):
            cells.extend(moved(image, 10 * at, -20 * at))
        text = write_text(least_form(GLIDER))
        self.assertEqual(census(cells), [(text, 8)])
        self.assertEqual(census(cells + moved(BLOCK, 0, 50)), sorted([(text, 8), ("2O/2O!", 1)]))

    def test_ascending(self):
        self.assertEqual(census([(0, 0), (0, 9), (5, 5), (6, 5)]), [("2O!", 1), ("O!", 2)])
        cells = BLINKER + moved(BLOCK, 0, 10) + [(0, 20)] + moved([(0, 0), (1, 1)], 0, 30) + [(9, 9)]
        found = census(cells)
        self.assertEqual(found, [("2O/2O!", 1), ("3O!", 1), ("O!", 2), ("O/.O!", 1)])
        self.assertEqual(found, sorted(found))
        self.assertEqual([type(entry) for entry in found], [tuple] * 4)

    def test_against_the_islands(self):
        for seed in range(30):
            cells = soup(seed, 25, 25, 6)
            texts = [write_text(min([plain_home(image) for image in plain_images(island)]))
                     for island in plain_islands(cells)]
            self.assertEqual(census(cells), sorted((text, texts.count(text)) for text in set(texts)))
            for text, _ in census(cells):
                self.assertEqual(least_form(read_text(text)), home(read_text(text)))

    def test_special_ones(self):
        self.assertEqual(census([]), [])
        self.assertEqual(census([(FAR, FAR), (FAR, FAR), (-FAR, 0)]), [("O!", 2)])


if __name__ == "__main__":
    unittest.main()
