"""Rings: floors on which the last row lies beside the first one, and the last column beside the first one."""

from longlife.patterns import pattern
from longlife.strips import next_strip, sums_of, totals_of


class Ring:
    """A ring under a rule.

    A pattern is kept as the bits of an integer: the cell in row r and column c is the bit r * width + c.
    """

    def __init__(self, rule, height, width):
        self._rule = rule
        self._height = height
        self._width = width
        self._full = (1 << (height * width)) - 1
        self._first_column = 0
        for row in range(height):
            self._first_column |= 1 << (row * width)
        self._last_column = (self._first_column << width) >> 1

    def bits(self, cells):
        """Return the bits of a pattern."""
        bits = 0
        for row, column in cells:
            bits |= 1 << (row % self._height * self._width + column % self._width)
        return bits

    def cells(self, bits):
        """Return the pattern with these bits."""
        cells = []
        while bits:
            lowest = bits & -bits
            cells.append(divmod(lowest.bit_length() - 1, self._width))
            bits ^= lowest
        return cells

    def after(self, bits):
        """Return the bits of the next generation."""
        if not bits:
            return 0
        ones, twos = sums_of(self._from_left(bits), bits, self._from_right(bits))
        above = (self._from_above(ones), self._from_above(twos))
        below = (self._from_below(ones), self._from_below(twos))
        return next_strip(bits, totals_of(above, (ones, twos), below), self._rule)

    def _from_left(self, bits):
        """Return bits such that each cell has what the cell to its left has in these; likewise the next three."""
        inner = self._full ^ self._first_column
        return ((bits << 1) & inner) | ((bits >> (self._width - 1)) & self._first_column)

    def _from_right(self, bits):
        inner = self._full ^ self._last_column
        return ((bits >> 1) & inner) | ((bits << (self._width - 1)) & self._last_column)

    def _from_above(self, bits):
        return ((bits << self._width) & self._full) | (bits >> ((self._height - 1) * self._width))

    def _from_below(self, bits):
        return (bits >> self._width) | ((bits << ((self._height - 1) * self._width)) & self._full)

    def history(self, cells, bound):
        """Return the bits of the generations up to the bound, and None.

        If a generation repeats an earlier one, return those before it, and the number of the earlier one.
        """
        states = [self.bits(cells)]
        numbers = {states[0]: 0}
        for generation in range(1, bound + 1):
            state = self.after(states[-1])
            if state in numbers:
                return states, numbers[state]
            numbers[state] = generation
            states.append(state)
        return states, None


def ring_next(cells, rule, height, width):
    """Return the next generation of a pattern on a ring."""
    return ring_grown(cells, rule, height, width, 1)


def ring_grown(cells, rule, height, width, generations):
    """Return the pattern on a ring after this number of generations."""
    ring = Ring(rule, height, width)
    states, start = ring.history(cells, generations)
    if start is not None:
        generations = start + (generations - start) % (len(states) - start)
    return ring.cells(states[generations])


def ring_fate(cells, rule, height, width, bound):
    """Return the fate of a pattern on a ring within a bound: its start and its period, or None."""
    states, start = Ring(rule, height, width).history(cells, bound)
    return None if start is None else (start, len(states) - start)


def unrolled(cells, height, width, rows, columns):
    """Return the pattern of copies of a ring: so many rows of them, and so many columns."""
    return pattern([(row + down * height, column + beside * width)
                    for row, column in cells for down in range(rows) for beside in range(columns)])
