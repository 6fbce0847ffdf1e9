"""Cells of sums of permutations, and polynomials at sums of matrices."""

from tablelaws.errors import WrongSize
from tablelaws.evaluating import value_at
from tablelaws.matrices import Matrix, check_size
from tablelaws.parts import part_of
from tablelaws.ratios import Ratio


def moved_row(perm, row):
    """Returns the tuple in which the integer at each place of `row` stands where the permutation maps the place."""
    moved = [0] * len(row)
    for image, value in zip(perm, row):
        moved[image - 1] = value
    return tuple(moved)


def cell_of(permsum, columns, rows):
    """Returns the sum of the coefficients of the permutations that move the tuple `columns` to `rows`."""
    total = Ratio(0)
    for perm, ratio in permsum.pairs():
        if moved_row(perm, columns) == rows:
            total = total + ratio
    return total


def place_matrices(size, columns, rows):
    """Returns the list of the matrices of the places, each with 1 in the row and the column of its place."""
    check_size(size)
    return [Matrix.unit(size, row, column) for column, row in zip(columns, rows)]


def choices_of(content):
    """Yields the tuples of places that have at least one place of each letter of a content, in ascending order."""
    choices = [()]
    for place in range(1, len(content) + 1):
        choices = choices + [choice + (place,) for choice in choices]
    for choice in sorted(choices):
        if {content[place - 1] for place in choice} == set(content):
            yield choice


def chosen_sums(content, matrices, chosen):
    """Returns the dict from the letters of a content to the sums of the matrices of their chosen places."""
    sums = {}
    for place in chosen:
        letter = content[place - 1]
        matrix = matrices[place - 1]
        sums[letter] = sums[letter] + matrix if letter in sums else matrix
    return sums


def linear_value(poly, content, size, matrices):
    """Returns the value of the part for a content that is linear in the matrix of each place."""
    check_size(size)
    for matrix in matrices[:len(content)]:
        if matrix.size != size:
            raise WrongSize(f"a matrix of size {matrix.size} at size {size}")
    part = part_of(poly, content)
    total = Ratio(0) if poly.kind == "number" else Matrix.zero(size)
    for chosen in choices_of(content):
        value = value_at(part, size, chosen_sums(content, matrices, chosen))
        left = len(content) - len(chosen)
        total = total - value if left % 2 else total + value
    return total
