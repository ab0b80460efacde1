"""Fates: how patterns end."""

from longlife.patterns import grown, moved
from longlife.strips import floor_of, home_floor, next_floor

# The marks of patterns are made with these two numbers; the larger they are, the rarer is a mark of two patterns.
FACTOR = 298173405613920847650129384756192837465
PRIME = (1 << 127) - 1


def fate(cells, rule, bound):
    """Return the fate of a pattern within a bound, or None."""
    # So far from the beginning of its strips, the pattern does not grow over it.
    first = min([column for _, column in cells], default=0) - bound
    floor = floor_of(cells, first)
    seen = {}
    for generation in range(bound + 1):
        mark, row, column = _marked(floor)
        for start, start_row, start_column in seen.get(mark, []):
            told = (start, generation - start, row - start_row, column - start_column)
            if holds(cells, rule, told):
                return told
        seen.setdefault(mark, []).append((generation, row, column))
        floor = next_floor(floor, rule)
    return None


def _marked(floor):
    """Return the mark of a floor, and its least row and column.

    Floors with the same home form have the same mark; others may have it, too, by rare chance. Large
    patterns of a thousand generations would need too much room to be kept; their marks do not.
    """
    if not floor:
        return 0, 0, 0
    homely, least_row, least_column = home_floor(floor)
    mark = 0
    for row, at in sorted(homely):
        mark = (((mark * FACTOR + row) * FACTOR + at) * FACTOR + homely[(row, at)]) % PRIME
    return mark, least_row, least_column


def holds(cells, rule, told):
    """Return whether a told fate holds for a pattern."""
    start, period, rows, columns = told
    first = grown(cells, rule, start)
    return grown(first, rule, period) == moved(first, rows, columns)


def at_generation(cells, rule, told, generation):
    """Return the pattern at a generation, from a told fate that holds."""
    start, period, rows, columns = told
    if generation < start:
        return grown(cells, rule, generation)
    times, rest = divmod(generation - start, period)
    return moved(grown(cells, rule, start + rest), times * rows, times * columns)
