"""Stores of squares, and the futures of squares.

A layout of a level is a dict with squares of that level. Its keys are the places of the squares on
the floor, as row and column among the squares of the level; the first cell of the square at the
place (0, 0) is the cell (0, 0). Its values are the numbers of the squares in a store. Only squares
with living cells stand in it, so that it costs nothing how far they are from each other.
"""

from longlife.blocks import TOP, Blocks, block_cells, block_count, blocks_of


class Store:
    """A store keeps squares under numbers, each square once.

    A square up to the level TOP is kept as a block, a larger one as its four parts. The number of a
    square is its place in the lists of levels, counts, blocks (as bits) and parts.
    """

    def __init__(self, rule):
        self._rule = rule
        self._blocks = Blocks(rule)
        self._levels = []
        self._counts = []
        self._bits = []
        self._parts = []
        self._small = {}
        self._large = {}
        self._empty = []
        self._futures = {}
        # In this order, so that these two get the numbers 0 and 1.
        self._empty.append(self.small(0, 0))
        self.small(0, 1)

    def joined(self, a, b, c, d):
        """Return the square with these parts."""
        level = self._levels[a] + 1
        if level <= TOP:
            bits = self._bits
            return self.small(level, self._blocks.put_together(level, bits[a], bits[b], bits[c], bits[d]))
        parts = (a, b, c, d)
        if parts not in self._large:
            counts = self._counts
            count = counts[a] + counts[b] + counts[c] + counts[d]
            self._large[parts] = self._new_square(level, count, 0, parts)
        return self._large[parts]

    def small(self, level, block):
        """Return the square with the cells of a block of this level, which is at most TOP."""
        kept = (level, block)
        if kept not in self._small:
            self._small[kept] = self._new_square(level, block_count(block), block, ())
        return self._small[kept]

    def _new_square(self, level, count, block, parts):
        self._levels.append(level)
        self._counts.append(count)
        self._bits.append(block)
        self._parts.append(parts)
        return len(self._levels) - 1

    def block(self, square):
        """Return the block with the cells of a square whose level is at most TOP."""
        return self._bits[square]

    def level(self, square):
        """Return the level of a square."""
        return self._levels[square]

    def parts(self, square):
        """Return the four parts of a square."""
        level = self._levels[square]
        if level > TOP:
            return self._parts[square]
        blocks = self._blocks.quarters(level, self._bits[square])
        return tuple([self.small(level - 1, block) for block in blocks])

    def count(self, square):
        """Return the number of living cells of a square."""
        return self._counts[square]

    def empty(self, level):
        """Return the square of this level without living cells."""
        while len(self._empty) <= level:
            part = self._empty[-1]
            self._empty.append(self.joined(part, part, part, part))
        return self._empty[level]

    def built(self, cells, level):
        """Return the square of this level with these cells."""
        blocks = blocks_of(cells)
        layout = {place: self.small(TOP, block) for place, block in blocks.items()}
        return self.at_level(layout, TOP, level).get((0, 0), self.empty(level))

    def cells(self, square):
        """Return the pattern of a square whose first row and column are 0."""
        found = []
        waiting = [(square, 0, 0)]
        while waiting:
            part, row, column = waiting.pop()
            if not self._counts[part]:
                continue
            if self._levels[part] > TOP:
                half = 1 << (self._levels[part] - 1)
                a, b, c, d = self._parts[part]
                waiting.extend([(a, row, column), (b, row, column + half)])
                waiting.extend([(c, row + half, column), (d, row + half, column + half)])
            else:
                found.extend([(row + down, column + beside) for down, beside in block_cells(self._bits[part])])
        return sorted(found)

    def middle(self, square):
        """Return the middle of a square."""
        level = self._levels[square]
        if level <= TOP:
            return self.small(level - 1, self._blocks.centre(level, self._bits[square]))
        a, b, c, d = self._parts[square]
        return self.joined(self.parts(a)[3], self.parts(b)[2], self.parts(c)[1], self.parts(d)[0])

    def future(self, square, j):
        """Return the middle of a square after 2^j generations."""
        asked = (square, j)
        if asked not in self._futures:
            self._futures[asked] = self._new_future(square, j)
        return self._futures[asked]

    def _new_future(self, square, j):
        level = self._levels[square]
        if level <= TOP:
            block = self._blocks.centre_after(level, self._bits[square], 1 << j)
            return self.small(level - 1, block)
        if not self._counts[square]:
            return self.empty(level - 1)
        whole = j == level - 2
        later = j - 1 if whole else j
        # Half of the time passes in these nine, or nothing of it, and the rest in the four that they make.
        nine = [self.future(part, later) if whole else self.middle(part) for part in self._nine(square)]
        a, b, c, d = [self.future(part, later) for part in self._four(nine)]
        return self.joined(a, b, c, d)

    def _nine(self, square):
        """Return the nine squares of the next lower level whose places differ by half their size."""
        a, b, c, d = self._parts[square]
        a0, a1, a2, a3 = self.parts(a)
        b0, b1, b2, b3 = self.parts(b)
        c0, c1, c2, c3 = self.parts(c)
        d0, d1, d2, d3 = self.parts(d)
        return [a, self.joined(a1, b0, a3, b2), b,
                self.joined(a2, a3, c0, c1), self.joined(a3, b2, c1, d0), self.joined(b2, b3, d0, d1),
                c, self.joined(c1, d0, c3, d2), d]

    def _four(self, nine):
        """Return the four squares that are made of each two by two of nine that lie three by three."""
        return [self.joined(nine[at], nine[at + 1], nine[at + 3], nine[at + 4]) for at in (0, 1, 3, 4)]

    def at_level(self, layout, level, wanted):
        """Return the layout of the wanted level for a layout of this level."""
        for part_level in range(level, wanted):
            layout = self._raised(layout, part_level)
        for _ in range(wanted, level):
            layout = self._lowered(layout)
        return layout

    def _raised(self, layout, level):
        """Return the layout of the next level for a layout of this level."""
        none = self.empty(level)
        fours = {(row >> 1, column >> 1): [none, none, none, none] for row, column in layout}
        for (row, column), square in layout.items():
            fours[(row >> 1, column >> 1)][(row & 1) * 2 + (column & 1)] = square
        return {place: self.joined(a, b, c, d) for place, (a, b, c, d) in fours.items()}

    def _lowered(self, layout):
        """Return the layout of the level below that of a layout."""
        lower = {}
        for (row, column), square in layout.items():
            for at, part in enumerate(self.parts(square)):
                if self._counts[part]:
                    lower[(row * 2 + (at >> 1), column * 2 + (at & 1))] = part
        return lower

    def aged(self, layout, level, j):
        """Return the layout of this level 2^j generations later; j is less than the level."""
        none = self.empty(level - 1)
        parts = {place: self.parts(square) for place, square in layout.items()}
        later = {}
        for row, column in _with_places_around(layout):
            square = self.future(self._surrounded(parts, row, column, (none, none, none, none)), j)
            if self._counts[square]:
                later[(row, column)] = square
        return later

    def _surrounded(self, parts, row, column, none):
        """Return the square of the next level that has the square at this place as its middle."""
        top_left = parts.get((row - 1, column - 1), none)[3]
        _, _, top_a, top_b = parts.get((row - 1, column), none)
        top_right = parts.get((row - 1, column + 1), none)[2]
        _, left_a, _, left_b = parts.get((row, column - 1), none)
        a, b, c, d = parts.get((row, column), none)
        right_a, _, right_b, _ = parts.get((row, column + 1), none)
        bottom_left = parts.get((row + 1, column - 1), none)[1]
        bottom_a, bottom_b, _, _ = parts.get((row + 1, column), none)
        bottom_right = parts.get((row + 1, column + 1), none)[0]
        return self.joined(self.joined(top_left, top_a, left_a, a), self.joined(top_b, top_right, b, right_a),
                           self.joined(left_b, c, bottom_left, bottom_a),
                           self.joined(d, right_b, bottom_b, bottom_right))

    def collected(self, squares):
        """Return a new store that keeps these squares and their parts, and the numbers of these squares in it."""
        other = Store(self._rule)
        numbers = {}
        # A part is kept before what it is a part of, so its number is the smaller one.
        for square in self._with_parts(squares):
            if self._levels[square] > TOP:
                a, b, c, d = [numbers[part] for part in self._parts[square]]
                numbers[square] = other.joined(a, b, c, d)
            else:
                numbers[square] = other.small(self._levels[square], self._bits[square])
        return other, [numbers[square] for square in squares]

    def _with_parts(self, squares):
        """Return the numbers of squares and of their parts, down to those that are kept as blocks, ascending."""
        seen = set()
        waiting = list(squares)
        while waiting:
            square = waiting.pop()
            if square not in seen:
                seen.add(square)
                waiting.extend(self._parts[square])
        return sorted(seen)


def _with_places_around(layout):
    """Return the places of a layout and those around them."""
    places = {}
    for row, column in layout:
        for down in (-1, 0, 1):
            for beside in (-1, 0, 1):
                places[(row + down, column + beside)] = True
    return list(places)
