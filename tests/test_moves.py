import unittest

from longlife.patterns import home, mirrored, moved, pattern, turned

FAR = 2 ** 50
CELLS = [(3, -2), (-1, 0), (3, -2), (0, 5), (-1, -7), (0, 5), (2, 2), (10, -3)]
ASCENDING = [(-1, -7), (-1, 0), (0, 5), (2, 2), (3, -2), (10, -3)]
FUNCTIONS = [pattern, lambda cells: moved(cells, 2, -3), lambda cells: moved(cells, 0, 0), turned, mirrored, home]


class PatternTest(unittest.TestCase):
    def test_ascending_and_each_cell_once(self):
        self.assertEqual(pattern(CELLS), ASCENDING)

    def test_a_pattern_is_its_own_pattern(self):
        self.assertEqual(pattern(ASCENDING), ASCENDING)

    def test_rows_come_before_columns(self):
        self.assertEqual(pattern([(1, 0), (0, 9), (10, 0), (2, -1)]), [(0, 9), (1, 0), (2, -1), (10, 0)])

    def test_far_places(self):
        corners = [(FAR, FAR), (FAR, -FAR), (-FAR, FAR), (-FAR, -FAR)]
        self.assertEqual(pattern(corners), [(-FAR, -FAR), (-FAR, FAR), (FAR, -FAR), (FAR, FAR)])


class AllMovesTest(unittest.TestCase):
    def test_the_empty_pattern(self):
        for function in FUNCTIONS:
            self.assertEqual(function([]), [])

    def test_the_passed_list_stays(self):
        for function in FUNCTIONS:
            for cells in (CELLS, ASCENDING, [(0, 0), (0, 1)], []):
                passed = list(cells)
                function(passed)
                self.assertEqual(passed, cells)

    def test_the_returned_list_is_a_new_one(self):
        for function in FUNCTIONS:
            for cells in ([(0, 0), (0, 1)], []):
                first = function(cells)
                self.assertIs(type(first), list)
                self.assertIsNot(first, cells)
                kept = list(first)
                first.append((9, 9))
                self.assertEqual(function(cells), kept)

    def test_returned_patterns_are_ascending_and_have_each_cell_once(self):
        for function in FUNCTIONS:
            found = function(CELLS)
            self.assertEqual(found, sorted(set(found)))
            self.assertEqual(len(found), len(ASCENDING))
            self.assertTrue(all(type(cell) is tuple for cell in found))


class MovedTest(unittest.TestCase):
    def test_numbers_are_added_to_rows_and_columns(self):
        self.assertEqual(moved([(1, 2), (0, 0)], 10, -20), [(10, -20), (11, -18)])
        self.assertEqual(moved(CELLS, 0, 1), [(row, column + 1) for row, column in ASCENDING])
        self.assertEqual(moved(CELLS, 1, 0), [(row + 1, column) for row, column in ASCENDING])

    def test_far_places(self):
        self.assertEqual(moved([(FAR, -FAR)], -2 * FAR, 2 * FAR), [(-FAR, FAR)])
        self.assertEqual(moved([(FAR - 1, 1 - FAR)], 1, -1), [(FAR, -FAR)])

    def test_moving_there_and_back(self):
        self.assertEqual(moved(moved(CELLS, FAR, -5), -FAR, 5), ASCENDING)


class TurnedTest(unittest.TestCase):
    def test_where_cells_go(self):
        self.assertEqual(turned([(1, 0)]), [(0, -1)])
        self.assertEqual(turned([(0, 1)]), [(1, 0)])
        self.assertEqual(turned([(2, 5), (-3, 4)]), [(4, 3), (5, -2)])
        self.assertEqual(turned(CELLS), sorted((column, -row) for row, column in ASCENDING))

    def test_four_times_lead_back_and_fewer_do_not(self):
        images = [CELLS]
        for _ in range(4):
            images.append(turned(images[-1]))
        self.assertEqual(images[4], ASCENDING)
        self.assertEqual(images[2], sorted((-row, -column) for row, column in ASCENDING))
        self.assertEqual(len({tuple(image) for image in images[1:]}), 4)

    def test_far_places(self):
        self.assertEqual(turned([(FAR, -FAR), (-FAR, FAR - 1)]), [(-FAR, -FAR), (FAR - 1, FAR)])


class MirroredTest(unittest.TestCase):
    def test_where_cells_go(self):
        self.assertEqual(mirrored([(2, 5), (2, -1), (-3, 4)]), [(-3, -4), (2, -5), (2, 1)])

    def test_twice_leads_back_and_once_does_not(self):
        self.assertEqual(mirrored(mirrored(CELLS)), ASCENDING)
        self.assertNotEqual(mirrored(CELLS), ASCENDING)

    def test_far_places(self):
        self.assertEqual(mirrored([(FAR, -FAR), (FAR, FAR)]), [(FAR, -FAR), (FAR, FAR)])
        self.assertEqual(mirrored([(-FAR, FAR - 1)]), [(-FAR, 1 - FAR)])


class HomeTest(unittest.TestCase):
    def test_least_row_and_least_column_are_0(self):
        self.assertEqual(home(CELLS), [(0, 0), (0, 7), (1, 12), (3, 9), (4, 5), (11, 4)])
        self.assertEqual(home([(7, 9)]), [(0, 0)])

    def test_the_least_column_may_stand_in_any_row(self):
        self.assertEqual(home([(5, 8), (6, 3), (7, 9)]), [(0, 5), (1, 0), (2, 6)])

    def test_a_home_form_is_its_own(self):
        self.assertEqual(home([(0, 2), (1, 0)]), [(0, 2), (1, 0)])

    def test_far_places(self):
        self.assertEqual(home([(FAR, -FAR), (FAR, 1 - FAR)]), [(0, 0), (0, 1)])
        self.assertEqual(home([(-FAR, FAR), (FAR, -FAR)]), [(0, 2 * FAR), (2 * FAR, 0)])

    def test_moving_does_not_change_it(self):
        for rows, columns in ((0, 0), (5, -9), (-FAR, FAR)):
            self.assertEqual(home(moved(CELLS, rows, columns)), home(CELLS))


if __name__ == "__main__":
    unittest.main()
