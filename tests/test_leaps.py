import gc
import random
import time
import tracemalloc
import unittest

from longlife.patterns import grown, home, moved, pattern, read_picture
from longlife.rules import Rule, read_rule
from longlife.worlds import World
from plain import BLINKER, BLOCK, FAR, GLIDER, RULES, plainly_grown, soup

LIFE = read_rule("B3/S23")
MOST = 2 ** 40
# It throws a glider of itself to the bottom right every 30 generations.
GUN = read_picture([
    "........................O...........",
    "......................O.O...........",
    "............OO......OO............OO",
    "...........O...O....OO............OO",
    "OO........O.....O...OO..............",
    "OO........O...O.OO....O.O...........",
    "..........O.....O.......O...........",
    "...........O...O....................",
    "............OO......................"])


def world_of(cells, rule):
    world = World(rule)
    world.paste(cells, 0, 0, "add")
    return world


def shown(world):
    """All that a world shows."""
    bounds = world.bounds()
    row, column = (0, 0) if bounds is None else bounds[:2]
    return (world.generation, world.cells(), world.count(), bounds, world.alive(row, column),
            world.window(row - 1, column - 1, 30, 200))


class LeapTest(unittest.TestCase):
    def check_leaps(self, cells, rule, steps):
        """Leaps one after the other, held against the plain rule."""
        world = world_of(cells, rule)
        living = pattern(cells)
        generation = 0
        for step in steps:
            self.assertIsNone(world.leap(step))
            living = plainly_grown(living, rule, step)
            generation += step
            self.assertEqual(world.cells(), living)
            self.assertEqual((world.generation, world.count()), (generation, len(living)))

    def test_rules(self):
        for at, string in enumerate(RULES):
            with self.subTest(rule=string):
                self.check_leaps(soup(at, 9, 12, 40), read_rule(string), [1, 2, 0, 3, 4, 1])
                self.check_leaps([(0, 0)], read_rule(string), [5, 2])

    def test_any_rules(self):
        chance = random.Random(3)
        for seed in range(30):
            births = [number for number in range(1, 9) if chance.randrange(2)]
            survival = [number for number in range(9) if chance.randrange(2)]
            cells = moved(soup(seed, 8, 8, 50), chance.randrange(-40, 40), chance.randrange(-40, 40))
            self.check_leaps(cells, Rule(births, survival), [chance.randrange(7), 1, 5])

    def test_each_number_of_generations(self):
        cells = moved(soup(5, 12, 12, 40), -6, -6)
        living = pattern(cells)
        for generations in range(70):
            world = world_of(cells, LIFE)
            world.leap(generations)
            self.assertEqual(world.cells(), living)
            self.assertEqual(world.generation, generations)
            living = plainly_grown(living, LIFE, 1)

    def test_longer_leaps(self):
        for string in ("B3/S23", "B36/S125", "B3678/S34678", "B368/S245"):
            rule = read_rule(string)
            cells = soup(4, 40, 40, 40)
            for generations in (100, 255, 256, 777):
                world = world_of(cells, rule)
                world.leap(generations)
                self.assertEqual(world.cells(), grown(cells, rule, generations))

    def test_patterns_that_spread(self):
        for string, generations in (("B1/S012345678", 90), ("B2/S", 150), ("B12345678/S012345678", 120),
                                    ("B3/S012345678", 150), ("B1357/S02468", 127)):
            rule = read_rule(string)
            world = world_of([(0, 0), (0, 1), (1, 2)], rule)
            world.leap(generations)
            self.assertEqual(world.cells(), grown([(0, 0), (0, 1), (1, 2)], rule, generations))

    def test_places_do_not_count(self):
        cells = soup(6, 20, 20, 40)
        expected = grown(cells, LIFE, 75)
        places = [(row, column) for row in (-17, -16, 0, 15, 31) for column in (-33, -1, 16)]
        for row, column in places + [(FAR - 99, FAR - 99), (99 - FAR, 99 - FAR), (99 - FAR, FAR - 99)]:
            world = world_of(moved(cells, row, column), LIFE)
            world.leap(75)
            self.assertEqual(world.cells(), moved(expected, row, column))

    def test_a_leap_of_0(self):
        for cells in ([], GLIDER, soup(1, 30, 30, 50), [(FAR, FAR), (-FAR, -FAR)]):
            world = world_of(cells, LIFE)
            self.assertIsNone(world.leap(0))
            self.assertEqual((world.generation, world.cells()), (0, pattern(cells)))
            world.leap(7)
            before = shown(world)
            world.leap(0)
            self.assertEqual(shown(world), before)

    def test_the_empty_world(self):
        world = World(read_rule("B12345678/S012345678"))
        world.leap(MOST)
        world.leap(5)
        self.assertEqual((world.cells(), world.generation), ([], MOST + 5))
        world.put(1, 1, True)
        world.leap(1)
        self.assertEqual((world.count(), world.generation), (9, MOST + 6))

    def test_a_pattern_that_dies(self):
        world = world_of([(4, 4), (4, 5)], LIFE)
        world.leap(MOST)
        self.assertEqual((world.cells(), world.bounds(), world.generation), ([], None, MOST))

    def test_leaps_and_changes_by_turns(self):
        rule = read_rule("B36/S23")
        world = World(rule)
        living = []
        for step in range(25):
            cells = moved(soup(step, 5, 6, 50), 3 * step - 40, 35 - 3 * step)
            world.paste(cells, 0, 0, "flip")
            living = sorted(set(living) ^ set(cells))
            world.put(step - 12, 0, step % 2 == 0)
            living = sorted(set(living) - {(step - 12, 0)} | ({(step - 12, 0)} if step % 2 == 0 else set()))
            world.leap(step % 7)
            living = plainly_grown(living, rule, step % 7)
            self.assertEqual(world.cells(), living)

    def test_a_rule_of_its_own_for_each_world(self):
        one, other = world_of(BLINKER, LIFE), world_of(BLINKER, read_rule("B1/S"))
        one.leap(1)
        other.leap(1)
        self.assertEqual(one.cells(), [(-1, 1), (0, 1), (1, 1)])
        self.assertEqual(other.cells(), plainly_grown(BLINKER, read_rule("B1/S"), 1))


class SumsTest(unittest.TestCase):
    def check_sums(self, cells, rule, parts):
        whole = world_of(cells, rule)
        whole.leap(sum(parts))
        stepwise = world_of(cells, rule)
        for part in parts:
            stepwise.leap(part)
        self.assertEqual(shown(stepwise), shown(whole))
        self.assertEqual(whole.generation, sum(parts))

    def test_one_leap_of_a_sum_leads_to_the_same_as_its_parts(self):
        chance = random.Random(2)
        for seed in range(6):
            parts = [chance.choice([0, 1, 2, 3, 17, 100, 128, 1000]) for _ in range(5)]
            self.check_sums(soup(seed, 25, 25, 40), LIFE, parts)
            self.check_sums(soup(seed, 25, 25, 40), read_rule("B36/S125"), parts)

    def test_long_parts(self):
        self.check_sums(soup(9, 30, 30, 40), LIFE, [2 ** 20 + 3, 5, 2 ** 38 - 1, 0, 10 ** 11, 7])
        self.check_sums(GLIDER + moved(BLINKER, -9, -9), LIFE, [MOST - 1, 1])
        self.check_sums(GLIDER + moved(BLINKER, -9, -9), LIFE, [1, MOST - 1])

    def test_a_life_known_to_settle(self):
        # What is known of this pattern: from the generation 1103 on, 116 cells are alive, six gliders among them.
        cells = read_picture([".OO", "OO.", ".O."])
        world = world_of(cells, LIFE)
        world.leap(1000)
        self.assertEqual(world.cells(), grown(cells, LIFE, 1000))
        world.leap(102)
        self.assertNotEqual(world.count(), 116)
        world.leap(1)
        self.assertEqual((world.count(), world.generation), (116, 1103))
        world.leap(MOST)
        self.assertEqual(world.count(), 116)
        world.leap(MOST - 1103)
        self.assertEqual((world.count(), world.generation), (116, 2 * MOST))


class LongLeapTest(unittest.TestCase):
    def check_glider(self, generations):
        for row, column in ((0, 0), (-7, 30), (-2 ** 48, 2 ** 45)):
            world = world_of(moved(GLIDER, row, column), LIFE)
            world.leap(generations)
            times, rest = divmod(generations, 4)
            expected = moved(plainly_grown(GLIDER, LIFE, rest), row + times, column + times)
            self.assertEqual(world.cells(), expected)
            self.assertEqual(world.generation, generations)

    def test_gliders_over_long_times(self):
        for generations in (MOST, MOST - 1, MOST - 2, 2 ** 39 + 2 ** 20 + 5, 10 ** 9, 987654321987, 2 ** 32, 12345):
            self.check_glider(generations)

    def test_somewhat_beyond_the_limits(self):
        for generations in (MOST + 5, 2 ** 45 + 3):
            self.check_glider(generations)

    def test_still_cells_at_the_bounds(self):
        corners = [(-FAR, -FAR), (-FAR, FAR), (0, 0), (FAR, -FAR), (FAR, FAR)]
        for generations in (1, 2 ** 20, MOST - 1, MOST):
            world = world_of(corners, read_rule("B/S0"))
            world.leap(generations)
            self.assertEqual(world.cells(), corners)
            self.assertEqual(world.bounds(), (-FAR, -FAR, FAR, FAR))
            self.assertEqual((world.alive(FAR, FAR), world.alive(FAR, FAR - 1)), (True, False))
            self.assertEqual(world.window(FAR - 1, FAR - 1, 2, 2), ["..", ".O"])

    def test_blocks_at_the_bounds(self):
        places = [(-FAR, -FAR), (-FAR, FAR - 1), (FAR - 1, -FAR), (FAR - 1, FAR - 1), (7, FAR - 1), (-FAR, -1)]
        cells = pattern([cell for row, column in places for cell in moved(BLOCK, row, column)])
        world = world_of(cells, LIFE)
        world.leap(MOST)
        world.leap(MOST - 1)
        self.assertEqual((world.cells(), world.generation), (cells, 2 * MOST - 1))

    def test_patterns_that_come_just_to_the_bounds(self):
        # The largest row and column of a glider are 2 more than its place.
        way = MOST // 4
        for turn in ((1, 1), (1, -1), (-1, 1), (-1, -1)):
            start = [(turn[0] * (FAR - 2 - way + row), turn[1] * (FAR - 2 - way + column)) for row, column in GLIDER]
            after = [(turn[0] * (FAR - 2 + row), turn[1] * (FAR - 2 + column)) for row, column in GLIDER]
            world = world_of(start, LIFE)
            world.leap(MOST)
            self.assertEqual(world.cells(), pattern(after))
            self.assertEqual(max(abs(number) for number in world.bounds()), FAR)

    def test_gliders_from_all_sides_of_the_floor(self):
        chance = random.Random(5)
        # All go the same way, so none meets another one.
        places = [(chance.randrange(-FAR // 2, FAR // 2), chance.randrange(-FAR // 2, FAR // 2)) for _ in range(30)]
        world = world_of([cell for row, column in places for cell in moved(GLIDER, row, column)], LIFE)
        began = time.monotonic()
        world.leap(MOST - 1)
        world.leap(1)
        way = MOST // 4
        after = [cell for row, column in places for cell in moved(GLIDER, row + way, column + way)]
        self.assertEqual(world.cells(), pattern(after))
        self.assertLess(time.monotonic() - began, 60)

    def test_gliders_meet_after_a_long_time(self):
        way = 2 ** 30
        for beside, left in ((4, []), (3, BLOCK)):
            other = [(2 * way + beside - row, 2 * way + 3 - column) for row, column in GLIDER]
            world = world_of(GLIDER + other, LIFE)
            world.leap(4 * way - 64)
            near = pattern(moved(GLIDER, way - 16, way - 16) + moved(other, 16 - way, 16 - way))
            self.assertEqual(world.cells(), near)
            world.leap(600)
            self.assertEqual(world.cells(), grown(near, LIFE, 600))
            self.assertEqual(home(world.cells()), left)

    def test_a_gun(self):
        world = world_of(GUN, LIFE)
        world.leap(30 * 100)
        self.assertEqual(world.count(), len(GUN) + 5 * 100)
        began = time.monotonic()
        world.leap(30 * 9900)
        self.assertEqual((world.count(), world.generation), (len(GUN) + 5 * 10000, 300000))
        self.assertLess(time.monotonic() - began, 60)

    def test_long_leaps_of_wild_patterns_in_good_time(self):
        began = time.monotonic()
        world = world_of(soup(1, 150, 150, 40), LIFE)
        world.leap(MOST)
        counts = [world.count()]
        world.leap(4 * 3 * 5)
        counts.append(world.count())
        self.assertEqual(counts[0], counts[1])
        burst = world_of(read_picture(["OO", "O.", ".O"]), read_rule("B2/S"))
        burst.leap(400)
        self.assertEqual(burst.cells(), grown(read_picture(["OO", "O.", ".O"]), read_rule("B2/S"), 400))
        self.assertLess(time.monotonic() - began, 60)


class TidyTest(unittest.TestCase):
    def test_tidying_changes_nothing_that_a_world_shows(self):
        for cells in ([], GLIDER, soup(3, 30, 30, 40), [(FAR, -FAR), (-FAR, 0), (3, 3)]):
            for string in ("B3/S23", "B/S0", "B36/S125"):
                tidied, other = world_of(cells, read_rule(string)), world_of(cells, read_rule(string))
                for leap in (0, 1, 2, 30, 1000, 0, 5):
                    self.assertIsNone(tidied.tidy())
                    self.assertEqual(shown(tidied), shown(other))
                    tidied.leap(leap)
                    other.leap(leap)
                    self.assertEqual(shown(tidied), shown(other))
                    tidied.tidy()
                    tidied.tidy()
                    self.assertEqual(shown(tidied), shown(other))

    def test_tidying_between_changes(self):
        tidied, other = World(LIFE), World(LIFE)
        for step in range(20):
            for world in (tidied, other):
                world.paste(soup(step, 6, 6, 50), step - 10, 3 * step - 30, ("add", "flip", "clear")[step % 3])
                world.put(step, -step, step % 2 == 1)
            tidied.tidy()
            self.assertEqual(shown(tidied), shown(other))
            for world in (tidied, other):
                world.leap(3)
            self.assertEqual(shown(tidied), shown(other))

    def test_tidying_a_new_world(self):
        world = World(LIFE)
        world.tidy()
        self.assertEqual(shown(world), shown(World(LIFE)))

    def test_tidying_forgets(self):
        tracemalloc.start()
        world = world_of(soup(8, 60, 60, 40), LIFE)
        world.leap(2 ** 20)
        remembered, _ = tracemalloc.get_traced_memory()
        world.tidy()
        gc.collect()
        left, _ = tracemalloc.get_traced_memory()
        tracemalloc.stop()
        self.assertLess(10 * left, remembered)

    def test_tidying_after_long_leaps(self):
        world = world_of(soup(8, 30, 30, 40), LIFE)
        world.leap(MOST)
        before = shown(world)
        world.tidy()
        self.assertEqual(shown(world), before)
        world.leap(MOST)
        self.assertEqual(world.generation, 2 * MOST)


if __name__ == "__main__":
    unittest.main()
