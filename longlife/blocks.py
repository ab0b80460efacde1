"""Blocks: the cells of small squares, as the bits of an integer.

The cell of a block in row r and column c is the bit r * SIDE + c, whatever the level of the block
is. One operation on such integers counts for all cells of a block together, and the cells of a
block tell all about it, so that it needs no parts of its own.
"""

from longlife.strips import next_strip, sums_of, totals_of

# The largest level of a block, and the rows and columns of a block of that level.
TOP = 5
SIDE = 32


def place_of(row, column):
    """Return the place on the floor of the block in which a cell is, and the block with that cell alone."""
    at = (row & (SIDE - 1)) * SIDE + (column & (SIDE - 1))
    return (row // SIDE, column // SIDE), 1 << at


def blocks_of(cells):
    """Return the blocks of the level TOP in which there are cells, by their places on the floor."""
    blocks = {}
    for row, column in cells:
        place, block = place_of(row, column)
        blocks[place] = blocks.get(place, 0) | block
    return blocks


def block_cells(block):
    """Return the living cells of a block, ascending."""
    cells = []
    while block:
        lowest = block & -block
        cells.append(divmod(lowest.bit_length() - 1, SIDE))
        block ^= lowest
    return cells


def block_count(block):
    """Return the number of living cells of a block."""
    digits = f"{block:b}"
    return digits.count("1")


def block_changed(block, other, mode):
    """Return a block in which the living cells of another one are made alive, made dead or flipped."""
    if mode == "add":
        return block | other
    if mode == "clear":
        return block ^ (block & other)
    return block ^ other


def next_block(block, rule):
    """Return the next generation of a block; around it and at its edges, anything may come out.

    What leaves a row at its end comes into the next one at its beginning, and nothing is cut off
    below the last row. The edges of a block are wrong after one generation whatever is around it,
    so nothing more than what is wrong anyway becomes so.
    """
    ones, twos = sums_of(block << 1, block, block >> 1)
    totals = totals_of((ones << SIDE, twos << SIDE), (ones, twos), (ones >> SIDE, twos >> SIDE))
    return next_strip(block, totals, rule)


class Blocks:
    """What can be told of blocks of each level under one rule."""

    def __init__(self, rule):
        self._rule = rule
        self._full = [_full_block(level) for level in range(TOP)]

    def cut(self, level, block, row, column):
        """Return the block of a level below TOP whose first cell is the cell of a block in this row and column."""
        return (block >> (row * SIDE + column)) & self._full[level]

    def quarters(self, level, block):
        """Return the four parts of a block of this level."""
        half = (1 << level) >> 1
        places = ((0, 0), (0, half), (half, 0), (half, half))
        return [self.cut(level - 1, block, row, column) for row, column in places]

    def put_together(self, level, a, b, c, d):
        """Return the block of this level with these parts."""
        half = (1 << level) >> 1
        return a | (b << half) | (c << (half * SIDE)) | (d << (half * SIDE + half))

    def centre(self, level, block):
        """Return the middle of a block of this level."""
        quarter = (1 << level) >> 2
        return self.cut(level - 1, block, quarter, quarter)

    def centre_after(self, level, block, generations):
        """Return the middle of a block of this level after this number of generations."""
        for _ in range(generations):
            block = next_block(block, self._rule)
        return self.centre(level, block)


def _full_block(level):
    size = 1 << level
    row = (1 << size) - 1
    first_cells = ((1 << (size * SIDE)) - 1) // ((1 << SIDE) - 1)
    return row * first_cells
