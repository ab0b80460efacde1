"""Point 19: denials of targets."""

import itertools
import random
import unittest

from longlife.pasts import denies, search
from longlife.rules import read_rule
from plain import RULES, plainly_fails, plainly_holds, random_picture, random_rule, tuples_within

LIFE = read_rule("B3/S23")
NOTHING = read_rule("B/S")
# A living cell needs all of its nine cells alive; so two cells beside each other live or die together, nearly.
FULL = read_rule("B/S8")


def plainly_denies(target, rule, denial):
    def fails(case, row, column):
        nine = tuple(case.get((row + down, column + beside)) for down in range(3) for beside in range(3))
        return plainly_fails(rule.births, rule.survival, target[row][column] == "O", nine)
    return plainly_holds(fails, {}, denial)


def cells_of(target):
    return list(itertools.product(range(len(target) + 2), range(len(target[0]) + 2)))


def random_denial(chance, target, height):
    """A tree with any cells and places; on one way, a cell may be named several times."""
    if height == 1 or chance.randrange(6) == 0:
        return ("fails", chance.randrange(len(target)), chance.randrange(len(target[0])))
    dead = random_denial(chance, target, height - 1)
    alive = random_denial(chance, target, height - 1)
    return ("cell", *chance.choice(cells_of(target)), dead, alive)


def cells_named(denial):
    """The cells that a denial names."""
    if denial[0] == "fails":
        return []
    return [(denial[1], denial[2])] + cells_named(denial[3]) + cells_named(denial[4])


def with_a_double(chance, denial, cells):
    """A denial in which a tree is replaced by a tuple that has it, or a branch of it, on both sides."""
    if denial[0] == "cell" and chance.randrange(4):
        _, row, column, dead, alive = denial
        if chance.randrange(2):
            return ("cell", row, column, with_a_double(chance, dead, cells), alive)
        return ("cell", row, column, dead, with_a_double(chance, alive, cells))
    branch = denial
    if denial[0] == "cell" and chance.randrange(3) == 0:
        branch = denial[chance.choice((3, 4))]
    return ("cell", *chance.choice(cells), branch, branch)


def full_denial(cells, leaf):
    """The tree that asks for each of these cells, with the same leaf everywhere."""
    denial = leaf
    for row, column in reversed(cells):
        denial = ("cell", row, column, denial, denial)
    return denial


def changed_denials(denial, leaves):
    """Trees in which one tuple is another one."""
    if denial[0] == "fails":
        yield from [leaf for leaf in leaves if leaf != denial]
        return
    _, row, column, dead, alive = denial
    yield ("cell", row, column, alive, dead)
    yield from [("cell", row, column, other, alive) for other in changed_denials(dead, leaves)]
    yield from [("cell", row, column, dead, other) for other in changed_denials(alive, leaves)]


class DeniesTest(unittest.TestCase):
    def check(self, target, rule, denial):
        expected = plainly_denies(target, rule, denial)
        self.assertIs(denies(target, rule, denial), expected)
        return expected

    def test_random_trees(self):
        chance = random.Random(19)
        found = []
        for _ in range(3000):
            target = random_picture(chance, chance.choice((1, 1, 2)), chance.choice((1, 2)), ".O")
            rule = chance.choice((NOTHING, FULL, read_rule("B8/S8"), read_rule("B8/S"), random_rule(chance)))
            found.append(self.check(target, rule, random_denial(chance, target, chance.randrange(1, 9))))
        self.assertGreater(found.count(True), 200)
        self.assertGreater(found.count(False), 1000)

    def test_found_denials_with_the_same_branches_on_both_sides(self):
        chance = random.Random(191919)
        found = []
        for rule, target in ((read_rule("B/S0"), ["OO"]), (FULL, ["O.O"]), (read_rule("B8/S"), ["OO"]),
                             (read_rule("B/S01"), ["OO", "O."]), (read_rule("B7/S"), ["OOO"] * 3),
                             (read_rule("B12345678/S012345678"), ["...", ".O.", "..."])):
            word, denial = search(target, rule)
            self.assertEqual(word, "denial")
            for _ in range(800):
                cells = chance.sample(cells_of(target), 2) + [chance.choice(cells_named(denial))]
                changed = denial
                for _ in range(chance.randrange(1, 4)):
                    changed = with_a_double(chance, changed, cells)
                found.append(self.check(target, rule, changed))
        self.assertGreater(found.count(True), 500)
        self.assertGreater(found.count(False), 500)

    def test_the_same_branch_holds_on_one_side_alone(self):
        # The one cell fails if it is dead, and it does not if it is alive and nothing is said of its neighbours.
        rule = read_rule("B/S0")
        leaf = ("fails", 0, 0)
        for between in ([], [(0, 0)], [(0, 0), (2, 2)], [(0, 0), (1, 1), (2, 2)], [(1, 1), (1, 1), (0, 0)]):
            denial = full_denial(between, leaf)
            self.assertIs(denies(["O"], rule, ("cell", 1, 1, denial, denial)), False)
            self.assertIs(denies(["O"], rule, ("cell", 1, 0, denial, denial)), False)
            self.assertIs(denies(["O"], rule, ("cell", 1, 1, leaf, denial)), False)
            alone = ("cell", 1, 0, denial, denial)
            self.assertIs(denies(["O"], rule, ("cell", 1, 1, alone, alone)), False)
            self.assertIs(denies(["O"], rule, ("cell", 1, 0, ("cell", 1, 1, alone, alone), alone)), False)

    def test_the_same_branch_names_the_cell_again(self):
        # The first cell always fails and the second one never; which one counts is told by what was said before.
        always, never = ("fails", 0, 0), ("fails", 0, 1)
        for cell in cells_of(["O."]):
            if_dead, if_alive = ("cell", *cell, always, never), ("cell", *cell, never, always)
            twice = ("cell", *cell, if_dead, never)
            for branch in (if_dead, if_alive, twice, ("cell", 1, 1, twice, twice), ("cell", 1, 2, if_dead, twice)):
                self.assertIs(denies(["O."], NOTHING, ("cell", *cell, branch, branch)), False)
            self.assertIs(denies(["O."], NOTHING, ("cell", *cell, if_dead, if_alive)), True)
            self.assertIs(denies(["O."], NOTHING, ("cell", *cell, twice, if_alive)), True)
            self.assertIs(denies(["O."], NOTHING, ("cell", *cell, if_alive, if_dead)), False)

    def test_found_denials_and_what_is_near_them(self):
        chance = random.Random(1919)
        found = []
        for rule, target in ((FULL, ["O.O"]), (FULL, ["O", ".", "O"]), (read_rule("B8/S"), ["OO"]),
                             (read_rule("B2/S"), ["OOO"] * 3), (read_rule("B1/S"), ["OOO"] * 3),
                             (read_rule("B12345678/S012345678"), ["...", ".O.", "..."])):
            word, denial = search(target, rule)
            self.assertEqual(word, "denial")
            self.assertTrue(self.check(target, rule, denial))
            leaves = [("fails", row, column) for row in range(len(target)) for column in range(len(target[0]))]
            changed = list(changed_denials(denial, leaves))
            for other in chance.sample(changed, min(len(changed), 150)):
                found.append(self.check(target, rule, other))
        self.assertIn(True, found)
        self.assertGreater(found.count(False), 50)

    def test_a_single_fails_tuple(self):
        self.assertIs(denies(["O"], NOTHING, ("fails", 0, 0)), True)
        self.assertIs(denies(["."], NOTHING, ("fails", 0, 0)), False)
        self.assertIs(denies(["O"], LIFE, ("fails", 0, 0)), False)
        self.assertIs(denies(["..", ".O"], NOTHING, ("fails", 1, 1)), True)
        for row, column in ((0, 0), (0, 1), (1, 0)):
            self.assertIs(denies(["..", ".O"], NOTHING, ("fails", row, column)), False)

    def test_both_branches_must_hold(self):
        # Under this rule a cell lives if all nine are alive, so it fails as soon as one is said to be dead.
        dead = ("fails", 0, 0)
        for row, column in itertools.product(range(3), repeat=2):
            self.assertIs(denies(["O"], FULL, ("cell", row, column, dead, dead)), False)
        # All of the past must be alive for the first and the last one, and then the middle one is, too.
        left, right = ("fails", 0, 0), ("fails", 0, 2)
        denial = ("fails", 0, 1)
        for row, column in itertools.product(range(3), range(5)):
            denial = ("cell", row, column, left if column < 3 else right, denial)
        self.assertIs(self.check(["O.O"], FULL, denial), True)
        self.assertIs(self.check(["OOO"], FULL, denial), False)
        self.assertIs(self.check(["O.."], FULL, denial), False)
        for row, column in itertools.product(range(3), range(5)):
            other = ("cell", row, column, ("fails", 0, 1), denial)
            self.assertIs(self.check(["O.O"], FULL, other), False)

    def test_a_denial_of_two_cells_by_hand(self):
        # A cell lives if it is alive without neighbours. Two living ones beside each other are a contradiction:
        # the first one is alive, and so the second one has a neighbour.
        rule = read_rule("B/S0")
        first, second = ("fails", 0, 0), ("fails", 0, 1)
        self.assertIs(denies(["OO"], rule, ("cell", 1, 1, first, second)), True)
        self.assertIs(denies(["OO"], rule, ("cell", 1, 2, second, first)), True)
        self.assertIs(denies(["OO"], rule, ("cell", 1, 1, second, first)), False)
        self.assertIs(denies(["OO"], rule, ("cell", 1, 1, first, first)), False)
        self.assertIs(denies(["OO"], rule, ("cell", 1, 1, second, second)), False)
        self.assertIs(denies(["OO"], rule, ("cell", 1, 0, first, second)), False)
        self.assertIs(denies(["O.", ".O"], rule, ("cell", 1, 1, first, ("fails", 1, 1))), True)
        self.assertIs(denies(["O.O"], rule, ("cell", 1, 1, first, ("fails", 0, 2))), False)

    def test_a_cell_named_twice(self):
        rule = read_rule("B/S0")
        # If the cell (1, 1) is dead, the first cell of the target fails; if it is alive, the second one does.
        first, second = ("fails", 0, 0), ("fails", 0, 1)
        self.assertIs(denies(["OO"], rule, ("cell", 1, 1, first, second)), True)
        # The other branch does not count, whatever it is.
        if_dead, if_alive = ("cell", 1, 1, first, second), ("cell", 1, 1, first, second)
        self.assertIs(denies(["OO"], rule, ("cell", 1, 1, if_dead, if_alive)), True)
        wrong = ("cell", 1, 1, second, first)
        self.assertIs(denies(["OO"], rule, ("cell", 1, 1, wrong, if_alive)), False)
        self.assertIs(denies(["OO"], rule, ("cell", 1, 1, if_dead, wrong)), False)
        if_dead, if_alive = ("cell", 1, 1, first, first), ("cell", 1, 1, second, second)
        self.assertIs(denies(["OO"], rule, ("cell", 1, 1, if_dead, if_alive)), True)
        self.assertIs(denies(["OO"], rule, ("cell", 1, 1, if_alive, if_dead)), False)
        # Something else is named between the two.
        for row, column in ((0, 0), (1, 2), (2, 3)):
            between = ("cell", row, column, ("cell", 1, 1, first, second), ("cell", 1, 1, first, second))
            self.assertIs(denies(["OO"], rule, ("cell", 1, 1, between, second)), True)
            self.assertIs(denies(["OO"], rule, ("cell", 1, 1, first, between)), True)
            self.check(["OO"], rule, ("cell", 1, 1, between, between))
            between = ("cell", row, column, ("cell", 1, 1, second, first), ("cell", 1, 1, first, second))
            self.check(["OO"], rule, ("cell", 1, 1, between, second))
            self.check(["OO"], rule, ("cell", 1, 1, first, between))

    def test_what_is_said_on_one_side_does_not_count_on_the_other(self):
        rule = read_rule("B/S0")
        good = ("cell", 1, 1, ("fails", 0, 0), ("fails", 0, 1))
        # The cell is named on the left only; on the right, nothing is said of it.
        self.assertIs(denies(["OO"], rule, ("cell", 0, 0, good, ("fails", 0, 0))), True)
        self.assertIs(denies(["OO"], rule, ("cell", 0, 3, good, ("fails", 0, 0))), False)
        self.assertIs(denies(["OO"], rule, ("cell", 0, 3, good, ("fails", 0, 1))), True)

    def test_deep_trees(self):
        rule = read_rule("B/S0")
        leaf = ("cell", 1, 1, ("fails", 0, 0), ("fails", 0, 1))
        good, bad = leaf, ("cell", 1, 0, ("fails", 0, 0), ("fails", 0, 1))
        for step in range(58):
            row, column = ((1, 1), (0, 0), (2, 3))[step % 3]
            good = ("cell", row, column, leaf, good)
            bad = ("cell", row, column, leaf, bad)
        self.assertEqual((tuples_within(good), tuples_within(bad)), (60, 60))
        self.assertIs(self.check(["OO"], rule, good), True)
        self.check(["OO"], rule, bad)
        self.assertIs(self.check(["O."], rule, good), False)
        self.assertIs(self.check(["O."], rule, bad), False)

    def test_deep_trees_with_many_cells(self):
        # In a past of 49 cells, a living cell without neighbours fails if one of the eight is alive.
        rule = read_rule("B/S0")
        target = [".....", ".....", "..OO.", ".....", "....."]
        cells = [(row, column) for row in range(7) for column in range(7)]
        good = ("fails", 2, 2)
        for row, column in cells + cells[:7]:
            good = ("cell", row, column, ("cell", 3, 3, ("fails", 2, 2), ("fails", 2, 3)), good)
        self.assertEqual(tuples_within(good), 58)
        self.check(target, rule, good)
        alive = ("cell", 3, 3, ("fails", 2, 2), ("fails", 2, 3))
        bad = good
        for step in range(2):
            good = ("cell", 6, step, alive, good)
            bad = ("cell", 6, step, bad, ("fails", 0, 0))
        self.assertEqual((tuples_within(good), tuples_within(bad)), (60, 60))
        self.check(target, rule, good)
        self.check(target, rule, bad)

    def test_full_trees_whose_branches_are_the_same(self):
        cells = [(row, column) for row in range(7) for column in range(7)]
        target = ["OOOOO"] * 5
        self.assertIs(denies(target, NOTHING, full_denial(cells + cells[:10], ("fails", 2, 3))), True)
        self.assertIs(denies(target, LIFE, full_denial(cells + cells[:10], ("fails", 2, 3))), False)
        leaf = ("cell", 3, 3, ("fails", 2, 2), ("fails", 2, 3))
        self.assertIs(denies(target, read_rule("B/S0"), full_denial(cells, leaf)), True)
        self.assertIs(denies(target, read_rule("B/S0"), full_denial(cells[:24], leaf)), True)
        self.assertIs(denies(target, read_rule("B/S0"), full_denial(cells[30:], leaf)), True)

    def test_full_trees_of_one_cell(self):
        for text in RULES:
            rule = read_rule(text)
            for sign in ".O":
                denial = full_denial([divmod(at, 3) for at in range(9)], ("fails", 0, 0))
                self.check([sign], rule, denial)

    def test_the_arguments_stay_as_they_are(self):
        target = ["OO"]
        denial = ("cell", 1, 1, ("fails", 0, 0), ("fails", 0, 1))
        denies(target, read_rule("B/S0"), denial)
        self.assertEqual((target, denial), (["OO"], ("cell", 1, 1, ("fails", 0, 0), ("fails", 0, 1))))

    def test_somewhat_beyond_the_limits(self):
        rule = read_rule("B/S0")
        target = ["." * 6, ".OO..."] + ["." * 6] * 4
        denial = ("cell", 2, 2, ("fails", 1, 1), ("fails", 1, 2))
        for row in range(8):
            for column in range(8):
                denial = ("cell", row, column, ("cell", 2, 2, ("fails", 1, 1), ("fails", 1, 2)), denial)
        for _ in range(40):
            denial = ("cell", 0, 0, denial, denial)
        self.assertEqual(denies(target, rule, denial), True)


if __name__ == "__main__":
    unittest.main()
