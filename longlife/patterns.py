"""Patterns, their pictures and their run texts."""

from longlife.errors import InvalidPicture, InvalidText
from longlife.strips import cells_of, floor_of, next_floor

ALIVE = "O"
DEAD = "."
ROW_END = "/"
MARK = "!"
DIGITS = "0123456789"


def pattern(cells):
    """Return the pattern of a list of cells: ascending, each cell once."""
    return sorted(set(cells))


def moved(cells, rows, columns):
    """Return the pattern with these numbers added to all rows and to all columns."""
    return pattern([(row + rows, column + columns) for row, column in cells])


def turned(cells):
    """Return the pattern, turned."""
    return pattern([(column, -row) for row, column in cells])


def mirrored(cells):
    """Return the pattern, mirrored."""
    return pattern([(row, -column) for row, column in cells])


def home(cells):
    """Return the pattern, moved so that its least row and its least column are 0."""
    if not cells:
        return []
    least_row = min([row for row, _ in cells])
    least_column = min([column for _, column in cells])
    return moved(cells, -least_row, -least_column)


def grown(cells, rule, generations):
    """Return the pattern after this number of generations."""
    if not cells:
        return []
    # So far from the beginning of its strips, the pattern does not grow over it.
    first = min([column for _, column in cells]) - generations
    floor = floor_of(cells, first)
    for _ in range(generations):
        floor = next_floor(floor, rule)
    return cells_of(floor, first)


def read_picture(strings):
    """Return the pattern of a picture."""
    cells = []
    for row, string in enumerate(strings):
        _check_string(row, string, len(strings[0]))
        cells.extend([(row, column) for column, sign in enumerate(string) if sign == ALIVE])
    return cells


def _check_string(row, string, width):
    for column, sign in enumerate(string):
        if sign not in (ALIVE, DEAD):
            raise InvalidPicture(row, column)
    if len(string) != width:
        raise InvalidPicture(row, min(len(string), width))


def picture(cells):
    """Return the picture of the home form of a pattern."""
    living = home(cells)
    if not living:
        return []
    height = max([row for row, _ in living]) + 1
    width = max([column for _, column in living]) + 1
    signs = [[DEAD] * width for _ in range(height)]
    for row, column in living:
        signs[row][column] = ALIVE
    return ["".join(row) for row in signs]


def read_text(string):
    """Return the home form with this run text."""
    cells = _cells_of_text(string)
    # The reading passes over all that is wrong, so only a run text comes out again as it went in.
    if write_text(cells) != string:
        raise InvalidText(f"not the run text of a home form: {string}")
    return cells


def _cells_of_text(string):
    cells = []
    row = 0
    column = 0
    digits = ""
    for sign in string:
        if sign in DIGITS:
            digits += sign
            continue
        number = int(digits) if digits else 1
        digits = ""
        if sign == ROW_END:
            row += number
            column = 0
        if sign == ALIVE:
            cells.extend([(row, column + step) for step in range(number)])
        if sign in (ALIVE, DEAD):
            column += number
    return cells


def write_text(cells):
    """Return the run text of the home form of a pattern."""
    parts = []
    last_row = 0
    end = 0
    for row, column, length in _runs(home(cells)):
        if row > last_row:
            parts.append(_counted(row - last_row, ROW_END))
            last_row = row
            end = 0
        if column > end:
            parts.append(_counted(column - end, DEAD))
        parts.append(_counted(length, ALIVE))
        end = column + length
    parts.append(MARK)
    return "".join(parts)


def _runs(living):
    """Return the runs of living cells: the row, the first column and the length of each."""
    runs = []
    for row, column in living:
        if runs and runs[-1][0] == row and runs[-1][1] + runs[-1][2] == column:
            runs[-1][2] += 1
        else:
            runs.append([row, column, 1])
    return runs


def _counted(number, sign):
    return sign if number == 1 else str(number) + sign
