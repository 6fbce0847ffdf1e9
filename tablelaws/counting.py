"""Numbers of tableaux and of good permutations."""

from tablelaws.matrices import check_size


def shapes_of(places, columns):
    """Returns the list of all shapes with so many cells and at most so many columns, in descending order."""
    if places == 0:
        return [()]
    shapes = []
    for first in range(min(places, columns), 0, -1):
        shapes = shapes + [(first,) + rest for rest in shapes_of(places - first, first)]
    return shapes


def filling_count(shape):
    """Returns the number of increasing tableaux of a shape."""
    if shape == ():
        return 1
    return sum([filling_count(smaller) for smaller in _shapes_below(shape)])


def good_count(size, places):
    """Returns the number of permutations of so many places that are good for a size."""
    check_size(size)
    return sum([filling_count(shape) ** 2 for shape in shapes_of(places, size)])


def _shapes_below(shape):
    """Returns the list of the shapes that remain if a cell at the end of its row and its column is left out."""
    shapes = []
    for index, length in enumerate(shape):
        below = shape[index + 1:]
        if below == () or below[0] < length:
            shortened = (length - 1,) if length > 1 else ()
            shapes.append(shape[:index] + shortened + below)
    return shapes
