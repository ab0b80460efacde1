"""Patterns for the tests, and the plain rule of point 3, counted cell by cell."""

import random

FAR = 2 ** 50
GLIDER = [(0, 1), (1, 2), (2, 0), (2, 1), (2, 2)]
BLOCK = [(0, 0), (0, 1), (1, 0), (1, 1)]
BLINKER = [(0, 0), (0, 1), (0, 2)]
RULES = ["B3/S23", "B2/S", "B36/S125", "B1/S", "B1/S012345678", "B/S012345678", "B/S", "B/S0", "B8/S8", "B12345678/S",
         "B1357/S02468", "B45678/S2345", "B3678/S34678", "B12345678/S012345678", "B2/S0", "B4/S1", "B5/S7", "B6/S6",
         "B7/S5", "B8/S4", "B38/S3", "B3/S8"]


def plain_next(cells, births, survival):
    """The next generation, counted cell by cell."""
    alive = set(cells)
    near = {(row + rows, column + columns) for row, column in alive for rows in (-1, 0, 1) for columns in (-1, 0, 1)}
    after = []
    for row, column in near:
        count = 0
        for rows in (-1, 0, 1):
            for columns in (-1, 0, 1):
                if (rows, columns) != (0, 0) and (row + rows, column + columns) in alive:
                    count += 1
        if count in (survival if (row, column) in alive else births):
            after.append((row, column))
    return sorted(after)


def plainly_grown(cells, rule, generations):
    """The pattern after this number of generations, counted cell by cell."""
    living = sorted(set(cells))
    for _ in range(generations):
        living = plain_next(living, rule.births, rule.survival)
    return living


def soup(seed, height, width, percent):
    chance = random.Random(seed)
    return [(row, column) for row in range(height) for column in range(width) if chance.randrange(100) < percent]
