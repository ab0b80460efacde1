"""Pasts of pictures, and denials that show that a picture has none."""

from longlife.denials import Case, Search, box_cells, cells_around, nine_fail, size_of, states_of
from longlife.patterns import ALIVE

# A past has one row and one column more than its target before the first ones, and behind the last ones.
EDGE = 1


def is_past(target, rule, past):
    """Return whether a picture is a past of a target."""
    case = states_of(past)
    return not any([fails(target, rule, case, row, column) for row, column in states_of(target)])


def fails(target, rule, case, row, column):
    """Return whether a cell of a target fails in a case."""
    nine = [case.get(cell) for cell in cells_around(row + EDGE, column + EDGE)]
    return nine_fail(rule, target[row][column] == ALIVE, nine)


def denies(target, rule, denial):
    """Return whether a denial of a target holds."""
    height, width = _past_size(target)
    case = Case(rule, box_cells(height, width), states_of(target), EDGE)
    return case.proof(denial) is not None


def search(target, rule):
    """Return ("past", past), or ("denial", denial) if there is no past."""
    height, width = _past_size(target)
    case = Search(rule, box_cells(height, width), states_of(target), EDGE)
    found = case.found()
    if found is None:
        return "past", case.shown(height, width)
    denial, _ = found
    return "denial", denial


def _past_size(target):
    height, width = size_of(target)
    return height + 2 * EDGE, width + 2 * EDGE
