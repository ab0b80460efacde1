"""Stills: pictures that stay as they are, and denials that show that there are none."""

from longlife.denials import Case, Search, box_cells, cells_around, nine_fail, size_of, states_of


def is_still(picture, rule):
    """Return whether a picture is a still of its box."""
    # A picture is a wish for each of its cells, so a place either stays as it is or fails.
    return not any([place_fails(picture, rule, {}, row, column) for row, column in _places(picture)])


def place_fails(wishes, rule, case, row, column):
    """Return whether a place fails in a case."""
    height, width = size_of(wishes)
    wished = states_of(wishes)
    nine = []
    for cell in cells_around(row, column):
        inside = 0 <= cell[0] < height and 0 <= cell[1] < width
        nine.append(wished.get(cell, case.get(cell)) if inside else False)
    return nine_fail(rule, None, nine)


def denies_still(wishes, rule, denial):
    """Return whether a denial of a box with wishes holds."""
    height, width = size_of(wishes)
    case = Case(rule, box_cells(height, width), _places(wishes), 0)
    for cell, alive in states_of(wishes).items():
        case.say(cell, alive)
    return case.proof(denial) is not None


def search_still(wishes, rule):
    """Return ("still", picture) with a still that meets the wishes, or ("denial", denial) if there is none."""
    height, width = size_of(wishes)
    case = Search(rule, box_cells(height, width), _places(wishes), 0)
    for cell, alive in states_of(wishes).items():
        case.say(cell, alive)
    found = case.found()
    if found is None:
        return "still", case.shown(height, width)
    denial, _ = found
    return "denial", denial


def _places(wishes):
    """Return the places of a box, each of which is wanted to stay as it is."""
    height, width = size_of(wishes)
    return {(row, column): None for row in range(-1, height + 1) for column in range(-1, width + 1)}
