"""Staircases: matrices that single out one word, or two words, among all words of the same different letters."""

from tablelaws.errors import TooLarge, WrongSize
from tablelaws.matrices import Matrix, check_size


def stair_arrows(size, length):
    """Returns the staircase with so many places."""
    _check_length(size, length)
    return [((place + 1) // 2, place // 2 + 1) for place in range(1, length + 1)]


def doubled_arrows(size, place):
    """Returns the 2 * size arrows in which the arrow at a place of a staircase stands twice."""
    _check_place(size, place)
    arrows = stair_arrows(size, 2 * size - 1)
    if place % 2 == 0:
        arrows = arrows[1:] + [(size, 1)]
    return arrows[:place] + arrows[place - 1:]


def staircase(size, word):
    """Returns the dict from the letters of a word to the matrices of the staircase's arrows."""
    return _matrices_of(size, word, stair_arrows(size, len(word)))


def staircase_entry(size, length):
    """Returns the row and the column of the only 1 in the product along the word of a staircase."""
    _check_length(size, length)
    return (1, 1 + length // 2)


def doubled_staircase(size, word, place):
    """Returns the dict from the letters of a word to the matrices of the arrows with one arrow doubled."""
    arrows = doubled_arrows(size, place)
    if len(word) != len(arrows):
        raise WrongSize(f"a word of {len(word)} letters at size {size}")
    return _matrices_of(size, word, arrows)


def doubled_entry(size, place):
    """Returns the row and the column where the products along two words of a doubled staircase have a 1."""
    _check_place(size, place)
    return (1, size) if place % 2 else (1, 1)


def _check_length(size, length):
    check_size(size)
    if length > 2 * size - 1:
        raise TooLarge(f"a staircase with {length} places at size {size}")


def _check_place(size, place):
    check_size(size)
    if not 1 <= place <= 2 * size - 1:
        raise WrongSize(f"the place {place} at size {size}")


def _matrices_of(size, word, arrows):
    return {letter: Matrix.unit(size, row, column) for letter, (row, column) in zip(word, arrows)}
