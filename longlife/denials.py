"""Denials: why no picture is as it is wanted to be.

A place is a cell of which it is wanted how it is in the next generation: alive (True), dead (False)
or the same as now (None). Only three things tell whether it fails in a case: what is said of its
middle cell, how many of its neighbours are alive, and of how many of them nothing is said.
"""

from math import comb

from longlife.patterns import ALIVE, DEAD

ANY = "?"
AROUND = (-1, 0, 1)
# The three things are kept as one number, a code: 81 times the state of the middle cell (its place in STATES, where
# None stands for nothing said), 9 times the number of neighbours that are alive, and the number of those of which
# nothing is said. MIDDLE and NEIGHBOUR are what a code gains as soon as such a cell is said to be dead, or alive.
STATES = (False, True, None)
CODES = 243
NEIGHBOURS = 8
MIDDLE = (-162, -81)
NEIGHBOUR = (-1, 8)
# Larger than what all else can add to the weight of a cell.
FORCED = 1000000000
SCALE = 1000


def states_of(picture):
    """Return whether the cells of a picture are alive, by their rows and columns; wishes leave some of them out."""
    return {(row, column): sign == ALIVE
            for row, signs in enumerate(picture) for column, sign in enumerate(signs) if sign != ANY}


def size_of(picture):
    """Return the numbers of rows and of columns of a picture."""
    return len(picture), max([len(signs) for signs in picture], default=0)


def box_cells(height, width):
    """Return the cells of a box, ascending."""
    return [(row, column) for row in range(height) for column in range(width)]


def cells_around(row, column):
    """Return nine cells: the fifth one is the cell in this row and column, the others are its neighbours."""
    return [(row + down, column + beside) for down in AROUND for beside in AROUND]


def nine_fail(rule, wanted, nine):
    """Return whether a place fails of whose nine cells this is said: True, False, or None for nothing."""
    neighbours = nine[:4] + nine[5:]
    return not _count_ways(rule, wanted, nine[4], neighbours.count(True), neighbours.count(None))


def _count_ways(rule, wanted, middle, alive, unsaid):
    """Return in how many ways a place can be as wanted, if nothing is said of this number of its neighbours."""
    ways = 0
    middles = (False, True) if middle is None else (middle,)
    for state in middles:
        later = state if wanted is None else wanted
        fitting = [more for more in range(unsaid + 1) if rule.lives(state, alive + more) == later]
        ways += sum([comb(unsaid, more) for more in fitting])
    return ways


def _ways_table(rule, wanted):
    """Return in how many ways a place can be as wanted, by its code."""
    codes = [code for code in range(CODES) if code // 9 % 9 + code % 9 <= NEIGHBOURS]
    return {code: _count_ways(rule, wanted, STATES[code // 81], code // 9 % 9, code % 9) for code in codes}


class Case:
    """What is said of cells, and which places fail by it."""

    def __init__(self, rule, cells, wanted, shift):
        """Make the case in which nothing is said of these cells; all others are dead.

        The keys of `wanted` are the places. The middle cell of a place is `shift` rows below it and `shift`
        columns to the right of it.
        """
        self._said = {}
        self._bits = {cell: 1 << at for at, cell in enumerate(cells)}
        self._places = {cell: [] for cell in cells}
        self._steps = {}
        self._codes = {}
        self._ways = {}
        tables = {}
        for (row, column), aim in wanted.items():
            if aim not in tables:
                tables[aim] = _ways_table(rule, aim)
            self._ways[(row, column)] = tables[aim]
            self._add_place((row, column), row + shift, column + shift)

    def _add_place(self, place, row, column):
        self._steps[place] = {}
        self._codes[place] = 0
        for cell in cells_around(row, column):
            if cell in self._bits:
                steps = MIDDLE if cell == (row, column) else NEIGHBOUR
                self._places[cell].append(place)
                self._steps[place][cell] = steps
                # What nothing is said of has what it loses by being said to be dead.
                self._codes[place] -= steps[0]

    def say(self, cell, alive):
        """Say as well that a cell is alive, or that it is dead."""
        self._said[cell] = alive
        for place in self._places[cell]:
            self._codes[place] += self._steps[place][cell][int(alive)]

    def unsay(self, cell):
        """Say nothing of a cell any more."""
        alive = self._said.pop(cell)
        for place in self._places[cell]:
            self._codes[place] -= self._steps[place][cell][int(alive)]

    def proof(self, denial):
        """Return the said cells, as bits, on which it rests that a denial holds; None if it does not hold.

        A tree may have the same branch on both sides, again and again, so that it would take too long
        to go through all of it. What does not rest on a cell need not be gone through for both sides.
        """
        bits = 0
        cell = (denial[1], denial[2])
        while denial[0] == "cell" and cell in self._said:
            dead, alive = denial[3], denial[4]
            if dead != alive:
                bits |= self._bits[cell]
            denial = alive if self._said[cell] else dead
            cell = (denial[1], denial[2])
        if denial[0] == "fails":
            proof = self._proof_of_fail(cell)
        else:
            proof = self._proof_of_both(cell, denial[3], denial[4])
        return None if proof is None else bits | proof

    def _proof_of_both(self, cell, dead, alive):
        bit = self._bits[cell]
        bits = 0
        for state, denial in ((False, dead), (True, alive)):
            self.say(cell, state)
            proof = self.proof(denial)
            self.unsay(cell)
            if proof is None:
                return None
            if not proof & bit and dead == alive:
                return proof
            bits |= proof
        return bits & (bits ^ bit)

    def _proof_of_fail(self, place):
        """Return said cells, as bits, by which a place fails; None if it does not fail."""
        ways = self._ways[place]
        code = self._codes[place]
        if ways[code]:
            return None
        bits = 0
        # What was said early is the better reason, since less has to be gone through again for it.
        for cell in reversed(list(self._said)):
            if cell in self._steps[place]:
                less = code - self._steps[place][cell][int(self._said[cell])]
                if ways[less]:
                    bits |= self._bits[cell]
                else:
                    code = less
        return bits


class Search(Case):
    """A case in which pictures are searched for that fit it."""

    def __init__(self, rule, cells, wanted, shift):
        super().__init__(rule, cells, wanted, shift)
        self._weights = {}
        tables = {}
        for place, aim in wanted.items():
            if aim not in tables:
                ways = self._ways[place]
                tables[aim] = {code: _weigh(ways, code) for code in ways}
            self._weights[place] = tables[aim]

    def found(self):
        """Return None if a picture fits; then the case says so much that no place can fail any more.

        If no picture fits, return a denial and the said cells, as bits, on which it rests that it holds.
        """
        for place in self._codes:
            proof = self._proof_of_fail(place)
            if proof is not None:
                return ("fails", *place), proof
        cell = self._next_cell()
        return None if cell is None else self._found_by(cell)

    def _found_by(self, cell):
        bit = self._bits[cell]
        denials = []
        bits = 0
        for alive in (False, True):
            self.say(cell, alive)
            found = self.found()
            if found is None:
                return None
            self.unsay(cell)
            denial, proof = found
            if not proof & bit:
                return found
            denials.append(denial)
            bits |= proof
        return ("cell", *cell, *denials), bits ^ bit

    def _next_cell(self):
        """Return the cell of which it tells most to say something; None if no place can fail any more."""
        scores = {}
        for place, code in self._codes.items():
            weights = self._weights[place][code]
            if weights:
                for cell, steps in self._steps[place].items():
                    if cell not in self._said:
                        scores[cell] = scores.get(cell, 0) + weights[steps]
        return max(list(scores), key=lambda cell: scores[cell], default=None)

    def shown(self, height, width):
        """Return the picture of the living cells; cells of which nothing is said are dead in it."""
        return ["".join([ALIVE if self._said.get((row, column), False) else DEAD for column in range(width)])
                for row in range(height)]


def _weigh(ways, code):
    """Return how much it tells to say the middle cell of a place with this code, and one of its neighbours.

    Nothing is told by a place that fails, or that cannot fail any more. The others tell the more, the
    fewer ways there are and the fewer cells are left, and most of all where the place would fail at once.
    """
    left = code % 9 + code // 162
    all_ways = 1 << left
    if ways[code] in (0, all_ways):
        return {}
    # The power gives the logarithm of how rare the ways are in 64 parts.
    rare = (all_ways ** 64 // ways[code] ** 64).bit_length() - 1
    weight = 1 + rare * SCALE // (left * left)
    return {steps: weight + FORCED * [ways.get(code + step) for step in steps].count(0)
            for steps in (MIDDLE, NEIGHBOUR)}
