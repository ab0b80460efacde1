"""Worlds: patterns that live for very many generations at once."""

from longlife.blocks import SIDE, TOP, block_cells, block_changed, block_count, blocks_of, place_of
from longlife.patterns import ALIVE, DEAD
from longlife.squares import Store


class World:
    """A world has a rule, a generation and a pattern.

    The pattern is kept as the blocks in which there are living cells, by their places on the floor.
    """

    def __init__(self, rule):
        self.generation = 0
        self._rule = rule
        self._store = Store(rule)
        self._living = {}

    def put(self, row, column, alive):
        """Make a cell alive or dead."""
        self.paste([(row, column)], 0, 0, "add" if alive else "clear")

    def paste(self, cells, row, column, mode):
        """Make the cells of a pattern at this row and column alive or dead, or flip them."""
        pasted = blocks_of([(down + row, beside + column) for down, beside in cells])
        for place, block in pasted.items():
            changed = block_changed(self._living.get(place, 0), block, mode)
            if changed:
                self._living[place] = changed
            else:
                self._living.pop(place, None)

    def leap(self, generations):
        """Let the world live for this number of generations."""
        store = self._store
        level = TOP
        layout = {place: store.small(TOP, block) for place, block in self._living.items()}
        # The short parts of the leap come first, as long as the pattern has not spread far.
        for j in range(generations.bit_length()):
            if (generations >> j) & 1:
                # At this level, what surrounds a square is a block, or its future is made of two halves in time.
                wanted = max(j + 1, TOP - 1)
                layout = store.aged(store.at_level(layout, level, wanted), wanted, j)
                level = wanted
        layout = store.at_level(layout, level, TOP)
        self._living = {place: store.block(square) for place, square in layout.items()}
        self.generation += generations

    def tidy(self):
        """Forget all squares and their futures."""
        self._store = Store(self._rule)

    def alive(self, row, column):
        """Return whether a cell is alive."""
        place, block = place_of(row, column)
        return (self._living.get(place, 0) & block) != 0

    def count(self):
        """Return the number of living cells."""
        return sum([block_count(block) for block in self._living.values()])

    def cells(self):
        """Return the pattern."""
        return sorted(self._cells_of_blocks(self._living))

    def bounds(self):
        """Return the least row and column and the largest row and column of the living cells, or None."""
        living = self.cells()
        if not living:
            return None
        columns = [column for _, column in living]
        # The cells are ascending, so their rows are, too.
        return living[0][0], min(columns), living[-1][0], max(columns)

    def window(self, row, column, height, width):
        """Return the picture of the part of the floor whose first cell is in this row and column."""
        places = [(down, beside) for down in range(row // SIDE, (row + height - 1) // SIDE + 1)
                  for beside in range(column // SIDE, (column + width - 1) // SIDE + 1)]
        signs = [[DEAD] * width for _ in range(height)]
        for down, beside in self._cells_of_blocks([place for place in places if place in self._living]):
            if row <= down < row + height and column <= beside < column + width:
                signs[down - row][beside - column] = ALIVE
        return ["".join(line) for line in signs]

    def _cells_of_blocks(self, places):
        """Return the living cells of the blocks at some places."""
        found = []
        for row, column in places:
            living = block_cells(self._living[(row, column)])
            found.extend([(row * SIDE + down, column * SIDE + beside) for down, beside in living])
        return found
