import random
import unittest

from longlife.patterns import grown, pattern
from longlife.rules import read_rule
from longlife.squares import Store
from plain import GLIDER, soup

LIFE = read_rule("B3/S23")


def some_cells(seed, level, most):
    chance = random.Random(seed)
    size = 2 ** level
    return [(chance.randrange(size), chance.randrange(size)) for _ in range(chance.randrange(most + 1))]


def quarters(cells, level):
    """The cells of the four parts of a square, each from 0 on."""
    half = 2 ** (level - 1)
    places = ((0, 0), (0, half), (half, 0), (half, half))
    return [[(row - down, column - beside) for row, column in cells
             if down <= row < down + half and beside <= column < beside + half] for down, beside in places]


def built_by_parts(store, cells, level):
    """The square with these cells, made of single cells by joining alone."""
    if level == 0:
        return 1 if cells else 0
    return store.joined(*[built_by_parts(store, part, level - 1) for part in quarters(cells, level)])


class SquaresTest(unittest.TestCase):
    def test_the_numbers_of_cells(self):
        store = Store(LIFE)
        self.assertEqual((store.level(0), store.level(1)), (0, 0))
        self.assertEqual((store.count(0), store.count(1)), (0, 1))
        self.assertEqual((store.cells(0), store.cells(1)), ([], [(0, 0)]))
        self.assertEqual(store.empty(0), 0)
        self.assertEqual((store.built([], 0), store.built([(0, 0)], 0), store.built([(0, 0), (0, 0)], 0)), (0, 1, 1))

    def test_all_squares_of_level_1(self):
        store = Store(LIFE)
        found = {}
        for a in (0, 1):
            for b in (0, 1):
                for c in (0, 1):
                    for d in (0, 1):
                        square = store.joined(a, b, c, d)
                        found[square] = True
                        self.assertEqual(store.parts(square), (a, b, c, d))
                        self.assertEqual(store.level(square), 1)
                        self.assertEqual(store.count(square), a + b + c + d)
                        places = [((0, 0), a), ((0, 1), b), ((1, 0), c), ((1, 1), d)]
                        cells = [place for place, alive in places if alive]
                        self.assertEqual(store.cells(square), cells)
                        self.assertEqual(store.built(cells, 1), square)
        self.assertEqual(len(found), 16)
        self.assertGreater(min(found), 1)

    def test_numbers_tell_squares_apart_and_nothing_else(self):
        store = Store(LIFE)
        numbers = {}
        for seed in range(400):
            level = seed % 8
            cells = pattern(some_cells(seed, level, 6))
            numbers.setdefault((level, tuple(cells)), []).append(store.built(cells, level))
            numbers[(level, tuple(cells))].append(built_by_parts(store, cells, level))
        for same in numbers.values():
            self.assertEqual(len(set(same)), 1)
            self.assertIsInstance(same[0], int)
            self.assertGreaterEqual(same[0], 0)
        self.assertEqual(len({same[0] for same in numbers.values()}), len(numbers))

    def test_squares_of_different_levels_have_different_numbers(self):
        store = Store(LIFE)
        for cells in ([], [(0, 0)], [(0, 0), (0, 1)]):
            first = 0 if len(cells) < 2 else 1
            numbers = [store.built(cells, level) for level in range(first, 61)]
            self.assertEqual(len(set(numbers)), len(numbers))
            self.assertGreaterEqual(min(numbers), 0)
            self.assertEqual([store.level(number) for number in numbers], list(range(first, 61)))

    def test_one_cell_makes_a_difference(self):
        store = Store(LIFE)
        for level in range(1, 9):
            cells = some_cells(level, level, 2 ** (level + 1)) + [(0, 0)]
            square = store.built(cells, level)
            self.assertNotEqual(store.built([cell for cell in cells if cell != (0, 0)], level), square)

    def test_built_and_cells(self):
        store = Store(LIFE)
        for level in range(10):
            for seed in range(12):
                cells = some_cells(100 * level + seed, level, 3 * 2 ** level)
                kept = list(cells)
                square = store.built(cells, level)
                self.assertEqual(cells, kept)
                self.assertEqual(store.cells(square), pattern(cells))
                self.assertEqual(store.count(square), len(pattern(cells)))
                self.assertEqual(store.level(square), level)
                self.assertEqual(store.built(pattern(cells)[::-1] + cells, level), square)

    def test_later_changes_of_lists_have_no_effect(self):
        store = Store(LIFE)
        cells = [(1, 2), (3, 3), (9, 60)]
        square = store.built(cells, 7)
        cells.append((5, 5))
        found = store.cells(square)
        self.assertEqual(found, [(1, 2), (3, 3), (9, 60)])
        found.append((0, 0))
        self.assertEqual(store.cells(square), [(1, 2), (3, 3), (9, 60)])

    def test_parts(self):
        store = Store(LIFE)
        for level in range(1, 10):
            for seed in range(12):
                cells = pattern(some_cells(seed, level, 2 ** (level + 1)))
                square = store.built(cells, level)
                parts = store.parts(square)
                self.assertIsInstance(parts, tuple)
                self.assertEqual([store.cells(part) for part in parts], quarters(cells, level))
                self.assertEqual([store.level(part) for part in parts], [level - 1] * 4)
                self.assertEqual(store.joined(*parts), square)
                self.assertEqual(store.parts(square), parts)

    def test_the_order_of_the_parts(self):
        store = Store(LIFE)
        for level in range(9):
            none, one = store.empty(level), store.built([(0, 0)], level)
            half = 2 ** level
            self.assertEqual(store.cells(store.joined(one, none, none, none)), [(0, 0)])
            self.assertEqual(store.cells(store.joined(none, one, none, none)), [(0, half)])
            self.assertEqual(store.cells(store.joined(none, none, one, none)), [(half, 0)])
            self.assertEqual(store.cells(store.joined(none, none, none, one)), [(half, half)])

    def test_empty_squares(self):
        store = Store(LIFE)
        for level in [60] + list(range(61)):
            square = store.empty(level)
            self.assertEqual((store.level(square), store.count(square), store.cells(square)), (level, 0, []))
            self.assertEqual(store.built([], level), square)
            self.assertEqual(store.empty(level), square)
            if level:
                self.assertEqual(store.parts(square), (store.empty(level - 1),) * 4)

    def test_large_squares(self):
        store = Store(LIFE)
        last = 2 ** 60 - 1
        cells = [(0, 0), (0, last), (2 ** 59, 2 ** 59 - 1), (last, 0), (last, last)]
        square = store.built(cells[::-1] + cells, 60)
        self.assertEqual(store.cells(square), cells)
        self.assertEqual((store.level(square), store.count(square)), (60, 5))
        self.assertEqual([store.count(part) for part in store.parts(square)], [1, 1, 2, 1])
        self.assertEqual(store.joined(*store.parts(square)), square)

    def test_counts_of_full_squares(self):
        store = Store(LIFE)
        square = 1
        for level in range(1, 61):
            square = store.joined(square, square, square, square)
            self.assertEqual((store.level(square), store.count(square)), (level, 4 ** level))

    def test_many_cells(self):
        store = Store(LIFE)
        cells = soup(1, 300, 300, 50)
        square = store.built(cells, 50)
        self.assertEqual(store.cells(square), cells)
        self.assertEqual(store.count(square), len(cells))

    def test_somewhat_beyond_the_limits(self):
        store = Store(LIFE)
        square = store.built([(0, 2 ** 62), (2 ** 63, 0)], 64)
        self.assertEqual((store.level(square), store.count(square)), (64, 2))
        self.assertEqual(store.cells(square), [(0, 2 ** 62), (2 ** 63, 0)])
        self.assertEqual(store.level(store.empty(64)), 64)
        self.assertEqual(store.future(store.empty(64), 62), store.empty(63))
        # No error comes, and nothing that was kept before is another one afterwards.
        for level in range(8):
            square = store.built([(0, 0), (1, 1), (5, 5), (-1, 0), (99, 200)], level)
            store.middle(square)
            store.parts(square)
            store.future(square, max(0, level - 1))
        self.assertEqual([store.level(store.empty(level)) for level in range(9)], list(range(9)))
        self.assertEqual((store.cells(0), store.cells(1)), ([], [(0, 0)]))
        self.assertEqual(store.cells(store.built([(0, 0), (4, 0), (0, 5)], 2)), [(0, 0)])

    def test_two_stores_know_nothing_of_each_other(self):
        one, other = Store(LIFE), Store(read_rule("B2/S"))
        first = one.built(GLIDER, 6)
        for seed in range(20):
            other.built(some_cells(seed, 7, 30), 7)
        second = one.built([(5, 5), (5, 6)], 6)
        self.assertEqual((one.cells(first), one.cells(second)), (GLIDER, [(5, 5), (5, 6)]))
        fresh = other.built([(30, 30), (30, 31)], 6)
        self.assertEqual(other.cells(other.future(fresh, 0)), [(13, 14), (13, 15), (15, 14), (15, 15)])
        self.assertEqual(one.cells(one.future(one.built([(30, 30), (30, 31)], 6), 0)), [])


class CollectedTest(unittest.TestCase):
    def check_the_same(self, old, square, new, other):
        self.assertEqual(new.level(other), old.level(square))
        self.assertEqual(new.count(other), old.count(square))
        self.assertEqual(new.cells(other), old.cells(square))
        if old.level(square) > 1:
            self.assertEqual(new.cells(new.middle(other)), old.cells(old.middle(square)))
            for j in range(old.level(square) - 1):
                self.assertEqual(new.cells(new.future(other, j)), old.cells(old.future(square, j)))
        if old.level(square) > 0:
            for part, other_part in zip(old.parts(square), new.parts(other)):
                self.assertEqual(new.cells(other_part), old.cells(part))

    def test_a_collected_store_answers_as_the_old_one(self):
        for string in ("B3/S23", "B2/S", "B36/S125"):
            old = Store(read_rule(string))
            squares = [old.built(some_cells(level, level, 4 ** level // 3), level) for level in (7, 2, 0, 6, 5, 8, 1, 3, 4)]
            for square in squares[:2]:
                old.future(square, 0)
            new, others = old.collected(squares)
            self.assertIsInstance(new, Store)
            self.assertIsNot(new, old)
            self.assertIsInstance(others, list)
            self.assertEqual(len(others), len(squares))
            for square, other in zip(squares, others):
                self.check_the_same(old, square, new, other)

    def test_the_numbers_stand_in_the_order_of_the_list(self):
        old = Store(LIFE)
        squares = [old.built([(at, 2 * at)], 9) for at in (5, 100, 17, 3, 250)]
        passed = squares + squares[::-1] + [0, 1, 0]
        kept = list(passed)
        new, others = old.collected(passed)
        self.assertEqual(passed, kept)
        self.assertEqual([new.cells(other) for other in others], [old.cells(square) for square in passed])
        self.assertEqual(others[-3:], [0, 1, 0])
        self.assertEqual(others[:5], others[5:10][::-1])

    def test_nothing_is_collected(self):
        old = Store(LIFE)
        old.built(GLIDER, 9)
        new, others = old.collected([])
        self.assertEqual(others, [])
        self.assertEqual((new.level(0), new.level(1), new.count(1)), (0, 0, 1))
        self.assertEqual(new.cells(new.built(GLIDER, 9)), GLIDER)

    def test_a_square_is_kept_once_in_the_new_store(self):
        old = Store(LIFE)
        squares = [old.built(some_cells(level, level, 40), level) for level in range(12)]
        new, others = old.collected(squares)
        for level, (square, other) in enumerate(zip(squares, others)):
            self.assertEqual(new.built(old.cells(square), level), other)
        self.assertEqual(len(set(others)), len(set(squares)))

    def test_what_is_built_in_one_does_not_come_into_the_other(self):
        old = Store(LIFE)
        square = old.built(GLIDER, 8)
        new, others = old.collected([square])
        for seed in range(30):
            in_new = new.built(some_cells(seed, 8, 50), 8)
            in_old = old.built(some_cells(seed + 100, 8, 50), 8)
            self.assertEqual(new.cells(in_new), pattern(some_cells(seed, 8, 50)))
            self.assertEqual(old.cells(in_old), pattern(some_cells(seed + 100, 8, 50)))
        self.assertEqual((old.cells(square), new.cells(others[0])), (GLIDER, GLIDER))
        self.assertEqual(old.built(GLIDER, 8), square)
        self.assertEqual(new.built(GLIDER, 8), others[0])

    def test_a_collected_store_is_collected_again(self):
        old = Store(read_rule("B2/S"))
        square = old.built([(100, 100), (100, 101)], 8)
        first, numbers = old.collected([square])
        second, numbers = first.collected([first.future(numbers[0], 2)])
        self.assertEqual(second.cells(numbers[0]), old.cells(old.future(square, 2)))
        self.assertEqual(grown([(36, 36), (36, 37)], read_rule("B2/S"), 4), second.cells(numbers[0]))

    def test_large_squares_are_collected(self):
        old = Store(LIFE)
        cells = [(2 ** 59 + row, 2 ** 59 + column) for row, column in GLIDER]
        square = old.built(cells, 60)
        old.future(square, 58)
        new, others = old.collected([square, old.empty(60)])
        self.assertEqual(new.cells(others[0]), cells)
        self.assertEqual(others[1], new.empty(60))
        self.assertEqual(new.cells(new.future(others[0], 58)), old.cells(old.future(square, 58)))


if __name__ == "__main__":
    unittest.main()
