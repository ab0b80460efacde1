"""Generations of patterns, counted for many cells at once.

A strip is a stretch of WIDTH cells of one row, kept as the bits of an integer: the lowest bit is
the cell with the least column. One operation on such integers counts for all their cells together,
so that many generations of large patterns are quick. A floor is a dict with the strips in which a
cell is alive; the key of a strip is its row and its place among the strips of that row.
"""

# Wide enough for a small pattern to stay in one strip for 1000 generations, growing to both sides.
WIDTH = 2048


def floor_of(cells, first):
    """Return the floor of a pattern; strip 0 of each row begins at the column `first`."""
    floor = {}
    for row, column in cells:
        at, bit = divmod(column - first, WIDTH)
        floor[(row, at)] = floor.get((row, at), 0) | (1 << bit)
    return floor


def cells_of(floor, first):
    """Return the pattern of a floor; strip 0 of each row begins at the column `first`."""
    cells = []
    for row, at in sorted(floor):
        start = first + at * WIDTH
        strip = floor[(row, at)]
        while strip:
            lowest = strip & -strip
            cells.append((row, start + lowest.bit_length() - 1))
            strip ^= lowest
    return cells


def home_floor(floor):
    """Return the floor of the home form, if the pattern is not empty, and its least row and column.

    The least row is that of the pattern, and the least column is counted from the beginning of strip 0.
    """
    full = (1 << WIDTH) - 1
    top = min([row for row, _ in floor])
    first = min([at for _, at in floor])
    edge = 0
    for (_, at), strip in floor.items():
        if at == first:
            edge |= strip
    left = first * WIDTH + (edge & -edge).bit_length() - 1
    homely = {}
    for (row, at), strip in floor.items():
        place, shift = divmod(at * WIDTH - left, WIDTH)
        here = (strip & (full >> shift)) << shift
        beyond = strip >> (WIDTH - shift)
        if here:
            homely[(row - top, place)] = homely.get((row - top, place), 0) | here
        if beyond:
            homely[(row - top, place + 1)] = homely.get((row - top, place + 1), 0) | beyond
    return homely, top, left


def next_floor(floor, rule):
    """Return the floor of the next generation."""
    sums = _row_sums(floor)
    none = (0, 0)
    after = {}
    for row, at in _with_rows_beside(sums):
        above = sums.get((row - 1, at), none)
        here = sums.get((row, at), none)
        below = sums.get((row + 1, at), none)
        strip = next_strip(floor.get((row, at), 0), totals_of(above, here, below), rule)
        if strip:
            after[(row, at)] = strip
    return after


def _row_sums(floor):
    """Return the sums of each strip: how many are alive of each cell and those to its left and right."""
    last = WIDTH - 1
    full = (1 << WIDTH) - 1
    sums = {}
    for row, at in _with_strips_beside(floor):
        alive = floor.get((row, at), 0)
        left = ((alive << 1) & full) | (floor.get((row, at - 1), 0) >> last)
        right = (alive >> 1) | ((floor.get((row, at + 1), 0) & 1) << last)
        sums[(row, at)] = sums_of(left, alive, right)
    return sums


def sums_of(left, alive, right):
    """Return how many of three cells are alive, as the bits that count 1 and the bits that count 2."""
    odd = left ^ right
    return odd ^ alive, (left & right) | (odd & alive)


def _with_strips_beside(floor):
    """Return the keys of a floor, and those of the strips that a living cell of it touches in its row."""
    last = WIDTH - 1
    keys = {}
    for (row, at), strip in floor.items():
        keys[(row, at)] = True
        if strip & 1:
            keys[(row, at - 1)] = True
        if strip >> last:
            keys[(row, at + 1)] = True
    return list(keys)


def _with_rows_beside(sums):
    """Return the keys of sums, and those of the strips above and below."""
    keys = {}
    for row, at in sums:
        keys[(row - 1, at)] = True
        keys[(row, at)] = True
        keys[(row + 1, at)] = True
    return list(keys)


def totals_of(above, here, below):
    """Return how many of the nine cells at and around each cell are alive, from the sums of three rows.

    The totals are four integers: the bits that count 1, 2, 4 and 8.
    """
    above_ones, above_twos = above
    here_ones, here_twos = here
    below_ones, below_twos = below
    odd = above_ones ^ below_ones
    carried = (above_ones & below_ones) | (odd & here_ones)
    first = above_twos ^ below_twos
    second = here_twos ^ carried
    first_four = above_twos & below_twos
    second_four = here_twos & carried
    fours = (first_four ^ second_four) | (first & second)
    return odd ^ here_ones, first ^ second, fours, first_four & second_four


def next_strip(alive, totals, rule):
    """Return a strip in the next generation, from its living cells and its totals."""
    ones, twos, fours, eights = totals
    # Where none of the nine cells is alive, none is born, so the opposite of a bit is needed here only.
    near = ones | twos | fours | eights
    not_ones = near ^ ones
    not_twos = near ^ twos
    low = (not_ones & not_twos, ones & not_twos, not_ones & twos, ones & twos)
    high = (near ^ (fours | eights), fours, eights)
    born = 0
    for number in rule.births:
        born |= (low[number & 3] & high[number >> 2])
    kept = 0
    for number in rule.survival:
        # The total of a living cell counts that cell itself, too.
        total = number + 1
        kept |= (low[total & 3] & high[total >> 2])
    return (born & (near ^ alive)) | (kept & alive)
