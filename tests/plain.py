"""Patterns for the tests, and the plain rule of point 3, counted cell by cell."""

import functools
import itertools
import random

from longlife.rules import Rule

FAR = 2 ** 50
GLIDER = [(0, 1), (1, 2), (2, 0), (2, 1), (2, 2)]
BLOCK = [(0, 0), (0, 1), (1, 0), (1, 1)]
BLINKER = [(0, 0), (0, 1), (0, 2)]
RULES = ["B3/S23", "B2/S", "B36/S125", "B1/S", "B1/S012345678", "B/S012345678", "B/S", "B/S0", "B8/S8", "B12345678/S",
         "B1357/S02468", "B45678/S2345", "B3678/S34678", "B12345678/S012345678", "B2/S0", "B4/S1", "B5/S7", "B6/S6",
         "B7/S5", "B8/S4", "B38/S3", "B3/S8"]


def plain_next(cells, births, survival):
    """The next generation, counted cell by cell."""
    alive = set(cells)
    near = {(row + rows, column + columns) for row, column in alive for rows in (-1, 0, 1) for columns in (-1, 0, 1)}
    after = []
    for row, column in near:
        count = 0
        for rows in (-1, 0, 1):
            for columns in (-1, 0, 1):
                if (rows, columns) != (0, 0) and (row + rows, column + columns) in alive:
                    count += 1
        if count in (survival if (row, column) in alive else births):
            after.append((row, column))
    return sorted(after)


def plainly_grown(cells, rule, generations):
    """The pattern after this number of generations, counted cell by cell."""
    living = sorted(set(cells))
    for _ in range(generations):
        living = plain_next(living, rule.births, rule.survival)
    return living


def soup(seed, height, width, percent):
    chance = random.Random(seed)
    return [(row, column) for row in range(height) for column in range(width) if chance.randrange(100) < percent]


@functools.lru_cache(maxsize=None)
def plainly_fails(births, survival, wanted, nine):
    """Whether the middle one of nine cells is never as wanted: all states are tried of those that are None."""
    for states in itertools.product(*[(False, True) if state is None else (state,) for state in nine]):
        count = sum(states) - states[4]
        later = count in (survival if states[4] else births)
        if later == (states[4] if wanted is None else wanted):
            return False
    return True


def plainly_holds(fails, case, denial):
    """Whether a denial holds in a case, by the words of point 19."""
    cell = (denial[1], denial[2])
    if denial[0] == "fails":
        return fails(case, *cell)
    if cell in case:
        return plainly_holds(fails, case, denial[4] if case[cell] else denial[3])
    return (plainly_holds(fails, {**case, cell: False}, denial[3])
            and plainly_holds(fails, {**case, cell: True}, denial[4]))


def tuples_within(denial):
    """How many tuples of a denial stand within one another at most."""
    return 1 if denial[0] == "fails" else 1 + max(tuples_within(denial[3]), tuples_within(denial[4]))


def tuples_of(denial):
    """How many tuples a denial has."""
    return 1 if denial[0] == "fails" else 1 + tuples_of(denial[3]) + tuples_of(denial[4])


def random_picture(chance, height, width, signs):
    return ["".join(chance.choice(signs) for _ in range(width)) for _ in range(height)]


def picture_cells(strings):
    return [(row, column) for row, signs in enumerate(strings) for column, sign in enumerate(signs) if sign == "O"]


def random_rule(chance):
    percents = [chance.choice((10, 30, 50, 70)) for _ in range(2)]
    return Rule([number for number in range(1, 9) if chance.randrange(100) < percents[0]],
                [number for number in range(9) if chance.randrange(100) < percents[1]])
