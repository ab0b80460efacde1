import random
import unittest

from longlife.patterns import home, moved, pattern
from longlife.strips import WIDTH, cells_of, floor_of, home_floor
from plain import FAR, GLIDER, soup


class StripsTest(unittest.TestCase):
    def check_home(self, cells, first):
        floor = floor_of(cells, first)
        kept = {key: floor[key] for key in floor}
        least_row = min(row for row, _ in cells)
        least_column = min(column for _, column in cells)
        self.assertEqual(home_floor(floor), (floor_of(home(cells), 0), least_row, least_column - first))
        self.assertEqual(floor, kept)
        # The order of the strips in the dict does not count.
        backwards = {key: floor[key] for key in sorted(floor)[::-1]}
        self.assertEqual(home_floor(backwards), home_floor(floor))

    def test_floors_and_cells(self):
        for first in (-WIDTH - 3, -1, 0, 5, WIDTH, FAR):
            for column in (-FAR, -WIDTH, -1, 0, WIDTH - 2, WIDTH, 3 * WIDTH + 7, FAR):
                cells = moved(soup(column % 97, 5, 40, 40), -3, column)
                self.assertEqual(cells_of(floor_of(cells, first), first), cells)
                self.assertEqual(floor_of(cells[::-1] + cells, first), floor_of(cells, first))

    def test_the_floor_of_the_home_form(self):
        for first in (-WIDTH - 3, -WIDTH, -1, 0, 1, 77, WIDTH - 1, WIDTH, 2 * WIDTH + 1):
            for column in (-WIDTH - 2, -WIDTH, -1, 0, 1, WIDTH - 2, WIDTH - 1, WIDTH, WIDTH + 1, 5 * WIDTH):
                self.check_home(moved(GLIDER, 9, column), first)
                self.check_home(moved(soup(column % 89, 4, 60, 40), -7, column), first)

    def test_the_home_form_of_wide_patterns(self):
        chance = random.Random(7)
        for seed in range(40):
            cells = moved(soup(seed, 3, 3 * WIDTH, 1), seed - 20, chance.randrange(-3 * WIDTH, 3 * WIDTH))
            self.check_home(cells, chance.randrange(-2 * WIDTH, 2 * WIDTH))
            far = [(chance.randrange(-FAR, FAR), chance.randrange(-FAR, FAR)) for _ in range(5)]
            self.check_home(pattern(far), chance.randrange(-FAR, FAR))


if __name__ == "__main__":
    unittest.main()
