"""Islands: the images of patterns, and the parts of patterns that lie apart."""

from longlife.patterns import home, mirrored, pattern, turned, write_text

TURNS = 4
# Cells are near if their rows and their columns differ by at most 2.
NEAR = (-2, -1, 0, 1, 2)


def images(cells):
    """Return the eight images of a pattern: turned none to three times, then the same of the mirrored pattern."""
    return _turns(pattern(cells)) + _turns(mirrored(cells))


def _turns(cells):
    """Return a pattern turned none to three times."""
    found = [cells]
    while len(found) < TURNS:
        found.append(turned(found[-1]))
    return found


def _homes(cells):
    """Return the home forms of the eight images."""
    return [home(image) for image in images(cells)]


def least_form(cells):
    """Return the least one of the home forms of the images."""
    return min(_homes(cells))


def symmetries(cells):
    """Return the number of the images with the home form of the pattern itself."""
    homes = _homes(cells)
    return homes.count(homes[0])


def islands(cells):
    """Return the islands of a pattern, in the order of their first cells."""
    living = pattern(cells)
    left = {cell: True for cell in living}
    found = []
    for cell in living:
        waiting = [cell] if left.pop(cell, False) else []
        island = []
        while waiting:
            row, column = waiting.pop()
            island.append((row, column))
            for near in [(row + down, column + beside) for down in NEAR for beside in NEAR]:
                if left.pop(near, False):
                    waiting.append(near)
        if island:
            found.append(pattern(island))
    return found


def census(cells):
    """Return how many islands have the same least form: its run text and their number, ascending."""
    numbers = {}
    for island in islands(cells):
        text = write_text(least_form(island))
        numbers[text] = numbers.get(text, 0) + 1
    return sorted(numbers.items())
