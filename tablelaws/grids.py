"""Grids of matrices, on which two programs are compared."""

from tablelaws.errors import TooLarge, WrongKind
from tablelaws.matrices import Matrix, check_size
from tablelaws.running import run_program

MOST_COMBINATIONS = 1000


def all_matrices(size, entries):
    """Yields the matrices whose entries are items of a list, row by row; the last entry changes fastest."""
    check_size(size)
    cells = size * size
    for number in range(_choices(len(entries), cells)):
        yield _matrix_of(_chosen_items(number, entries, cells), size)


def first_difference(first, second, size, entries):
    """Returns the first combination of a grid's matrices at which two programs have unequal results, or None."""
    check_size(size)
    if first.kind != second.kind:
        raise WrongKind(f"the kinds {first.kind} and {second.kind} differ")
    letters = sorted(set(first.letters + second.letters))
    count = _choices(len(entries), len(letters) * size * size)
    if count > MOST_COMBINATIONS:
        raise TooLarge(f"{count} combinations")
    for number in range(count):
        matrices = _combination(number, letters, size, entries)
        if run_program(first, size, matrices) != run_program(second, size, matrices):
            return matrices
    return None


def _choices(count, times):
    """Returns in how many ways one of `count` items is chosen so many times."""
    ways = 1
    for _ in range(times):
        ways = ways * count
    return ways


def _chosen_items(number, items, times):
    """Returns the items of the choice with this number, counted from 0: its digits are their indices."""
    chosen = []
    for _ in range(times):
        chosen.append(items[number % len(items)])
        number = number // len(items)
    return chosen[::-1]


def _matrix_of(items, size):
    return Matrix([items[start:start + size] for start in range(0, size * size, size)])


def _combination(number, letters, size, entries):
    """Returns the dict from the letters to the matrices of the combination with this number."""
    cells = size * size
    items = _chosen_items(number, entries, len(letters) * cells)
    matrices = {}
    for place, letter in enumerate(letters):
        matrices[letter] = _matrix_of(items[place * cells:], size)
    return matrices
