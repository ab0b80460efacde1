import random
import unittest

from longlife.patterns import moved, pattern, picture
from longlife.rules import read_rule
from longlife.worlds import World
from plain import BLOCK, FAR, GLIDER, soup

LIFE = read_rule("B3/S23")
PLACES = [(0, 0), (5, 7), (-3, 2), (-40, -33), (31, -32), (1000, -2000), (FAR - 50, FAR - 50), (-FAR, -FAR),
          (FAR - 50, -FAR), (-FAR, FAR - 50), (FAR, 0), (0, -FAR), (2 ** 31, -2 ** 40)]


def world_of(cells, rule=LIFE):
    world = World(rule)
    world.paste(cells, 0, 0, "add")
    return world


def plain_window(cells, row, column, height, width):
    alive = set(cells)
    return ["".join("O" if (row + down, column + beside) in alive else "." for beside in range(width))
            for down in range(height)]


class WorldCase(unittest.TestCase):
    def check_shows(self, world, cells):
        """All that a world shows of a pattern."""
        living = pattern(cells)
        self.assertEqual(world.cells(), living)
        self.assertEqual(world.count(), len(living))
        if not living:
            self.assertIsNone(world.bounds())
            self.assertEqual(world.window(-3, -3, 2, 5), [".....", "....."])
            return
        rows, columns = [row for row, _ in living], [column for _, column in living]
        self.assertEqual(world.bounds(), (min(rows), min(columns), max(rows), max(columns)))
        alive = set(living)
        for row, column in living[:20] + living[-20:]:
            for down in (-1, 0, 1):
                cell = (row + down, column - 2 * down)
                self.assertIs(world.alive(*cell), cell in alive)
        for row, column in (living[0], living[-1]):
            self.assertEqual(world.window(row - 2, column - 3, 5, 7), plain_window(living, row - 2, column - 3, 5, 7))


class NewWorldTest(WorldCase):
    def test_a_new_world(self):
        world = World(LIFE)
        self.assertEqual(world.generation, 0)
        self.check_shows(world, [])
        self.assertEqual((world.cells(), world.count(), world.bounds()), ([], 0, None))
        for row, column in PLACES:
            self.assertIs(world.alive(row, column), False)
            self.assertEqual(world.window(row, column, 1, 2), [".."])

    def test_worlds_know_nothing_of_each_other(self):
        one, other = World(LIFE), World(LIFE)
        one.paste(GLIDER, 0, 0, "add")
        one.leap(8)
        self.check_shows(other, [])
        self.assertEqual(other.generation, 0)


class PutTest(WorldCase):
    def test_put(self):
        for row, column in PLACES:
            world = World(LIFE)
            self.assertIsNone(world.put(row, column, True))
            self.check_shows(world, [(row, column)])
            self.assertIs(world.alive(row, column), True)
            world.put(row, column, True)
            self.check_shows(world, [(row, column)])
            self.assertIsNone(world.put(row, column, False))
            self.check_shows(world, [])
            world.put(row, column, False)
            self.check_shows(world, [])
            self.assertEqual(world.generation, 0)

    def test_many_places(self):
        world = World(LIFE)
        for row, column in PLACES:
            world.put(row, column, True)
        self.check_shows(world, PLACES)
        for at, (row, column) in enumerate(PLACES):
            world.put(row, column + 1, False)
            world.put(row, column, False)
            self.check_shows(world, PLACES[at + 1:])

    def test_any_puts(self):
        chance = random.Random(8)
        for spread in (3, 40, FAR):
            world = World(LIFE)
            alive = set()
            for step in range(600):
                cell = (chance.randrange(-spread, spread + 1), chance.randrange(-9, 9))
                if chance.randrange(3):
                    world.put(*cell, True)
                    alive.add(cell)
                else:
                    cell = chance.choice(sorted(alive) + [cell])
                    world.put(*cell, False)
                    alive.discard(cell)
                if step % 50 == 0:
                    self.check_shows(world, sorted(alive))
            self.check_shows(world, sorted(alive))


class PasteTest(WorldCase):
    def test_paste_at_places(self):
        for row, column in PLACES:
            world = World(LIFE)
            self.assertIsNone(world.paste(GLIDER, row, column, "add"))
            self.check_shows(world, moved(GLIDER, row, column))
            self.assertEqual(world.generation, 0)

    def test_cells_of_patterns_may_be_anywhere(self):
        for row, column in PLACES:
            world = World(LIFE)
            world.paste(moved(BLOCK, -row, -column), row, column, "add")
            self.check_shows(world, BLOCK)
            world.paste(moved(BLOCK, row, column), 1 - row, 1 - column, "flip")
            self.check_shows(world, [(0, 0), (0, 1), (1, 0), (1, 2), (2, 1), (2, 2)])

    def test_the_three_modes(self):
        for mode, expected in (("add", [(0, 0), (0, 1), (0, 2)]), ("clear", [(0, 0)]), ("flip", [(0, 0), (0, 2)])):
            world = world_of([(0, 0), (0, 1)])
            self.assertIsNone(world.paste([(0, 1), (0, 2)], 0, 0, mode))
            self.check_shows(world, expected)

    def test_cells_given_several_times_count_once(self):
        for mode, expected in (("add", [(0, 0), (0, 1), (0, 2)]), ("clear", [(0, 0)]), ("flip", [(0, 0), (0, 2)])):
            for times in (2, 3, 4):
                world = world_of([(0, 0), (0, 1)] * times)
                cells = [(0, 2), (0, 1)] * times
                world.paste(cells, 0, 0, mode)
                self.check_shows(world, expected)
                self.assertEqual(cells, [(0, 2), (0, 1)] * times)

    def test_the_empty_pattern(self):
        for mode in ("add", "clear", "flip"):
            world = world_of(GLIDER)
            world.paste([], FAR, -FAR, mode)
            self.check_shows(world, GLIDER)
            empty = World(LIFE)
            empty.paste([], 0, 0, mode)
            self.check_shows(empty, [])

    def test_pasting_on_an_empty_world(self):
        for mode, expected in (("add", GLIDER), ("clear", []), ("flip", GLIDER)):
            world = World(LIFE)
            world.paste(GLIDER, 0, 0, mode)
            self.check_shows(world, expected)

    def test_clear_and_flip_take_all_away(self):
        cells = soup(1, 70, 70, 50)
        for mode in ("clear", "flip"):
            for row, column in PLACES:
                world = World(LIFE)
                world.paste(cells, row, column, "add")
                world.paste(cells, row, column, mode)
                self.check_shows(world, [])

    def test_any_pastes(self):
        chance = random.Random(6)
        for spread in (4, 50, FAR):
            world = World(LIFE)
            alive = set()
            for step in range(120):
                cells = soup(step, 9, chance.randrange(1, 80), 40)
                chance.shuffle(cells)
                place = (chance.randrange(-spread, spread), chance.choice([-spread, -33, 0, 31, spread]))
                mode = chance.choice(["add", "add", "clear", "flip"])
                world.paste(cells + cells[:3], place[0], place[1], mode)
                pasted = set(moved(cells, *place))
                alive = {"add": alive | pasted, "clear": alive - pasted, "flip": alive ^ pasted}[mode]
                self.assertEqual(world.count(), len(alive))
            self.check_shows(world, sorted(alive))

    def test_later_changes_of_lists_have_no_effect(self):
        cells = list(GLIDER)
        world = World(LIFE)
        world.paste(cells, 0, 0, "add")
        cells.append((50, 50))
        self.assertEqual(world.cells(), GLIDER)
        world.cells().append((3, 3))
        world.window(0, 0, 2, 2).append("..")
        self.check_shows(world, GLIDER)
        self.assertIsNot(world.cells(), world.cells())

    def test_many_cells(self):
        cells = soup(2, 300, 300, 80)
        world = World(LIFE)
        world.paste(cells, -150, -150, "add")
        self.check_shows(world, moved(cells, -150, -150))


class WindowTest(WorldCase):
    def test_windows_of_all_sizes(self):
        cells = soup(3, 230, 230, 40)
        world = World(LIFE)
        world.paste(cells, -115, -115, "add")
        living = moved(cells, -115, -115)
        chance = random.Random(1)
        sizes = [(1, 1), (1, 200), (200, 1), (200, 200), (31, 33), (32, 32), (64, 65), (2, 97)]
        for height, width in sizes:
            for _ in range(4):
                row, column = chance.randrange(-130, 110), chance.randrange(-130, 110)
                found = world.window(row, column, height, width)
                self.assertEqual(found, plain_window(living, row, column, height, width))
                self.assertEqual((len(found), len(found[0])), (height, width))

    def test_windows_around_the_middle(self):
        cells = [(row, column) for row in range(-3, 3) for column in range(-3, 3) if (row * column) % 3 == 0]
        world = world_of(cells)
        for row in range(-5, 5):
            for column in range(-5, 5):
                for height, width in ((1, 1), (2, 3), (7, 4)):
                    expected = plain_window(cells, row, column, height, width)
                    self.assertEqual(world.window(row, column, height, width), expected)

    def test_windows_far_away(self):
        cells = soup(4, 40, 40, 40)
        for row, column in PLACES:
            world = World(LIFE)
            world.paste(cells, row, column, "add")
            living = moved(cells, row, column)
            for down, beside in ((0, 0), (-7, 5), (38, -39), (-1, -1), (40, 0), (0, -40)):
                expected = plain_window(living, row + down, column + beside, 44, 41)
                self.assertEqual(world.window(row + down, column + beside, 44, 41), expected)

    def test_a_window_shows_the_picture_of_the_pattern(self):
        for row, column in PLACES:
            world = World(LIFE)
            world.paste(GLIDER, row, column, "add")
            self.assertEqual(world.window(row, column, 3, 3), picture(GLIDER))
            self.assertEqual(world.window(row + 3, column, 1, 3), ["..."])
            self.assertEqual(world.window(row, column - 2, 2, 4), ["...O", "...."])

    def test_somewhat_beyond_the_limits(self):
        cells = [(-2 ** 52, 2 ** 51 + 1), (0, 0), (0, 230), (2 ** 53, -2 ** 60)]
        world = world_of(cells)
        self.check_shows(world, cells)
        self.assertEqual(world.window(0, 0, 1, 250), plain_window(cells, 0, 0, 1, 250))
        self.assertEqual(world.window(-230, 20, 240, 230), plain_window(cells, -230, 20, 240, 230))
        self.assertEqual((world.window(0, 0, 0, 5), world.window(0, 0, 2, 0)), ([], ["", ""]))

    def test_a_large_part_of_the_floor_between(self):
        world = world_of([(-FAR, -FAR), (0, 0), (FAR, FAR)])
        self.assertEqual(world.window(-100, -100, 200, 200)[100], "." * 100 + "O" + "." * 99)
        self.assertEqual(world.window(FAR - 1, FAR - 1, 3, 3), ["...", ".O.", "..."])
        self.assertEqual(world.window(-FAR - 1, -FAR, 2, 2), ["..", "O."])
        self.assertEqual(world.bounds(), (-FAR, -FAR, FAR, FAR))


if __name__ == "__main__":
    unittest.main()
