"""Lists of permutations in order."""

from tablelaws.decreasing import is_good


def all_permutations(places, *, descending=False):
    """Yields all permutations of a number of places, in ascending or descending order."""
    values = list(range(places, 0, -1)) if descending else list(range(1, places + 1))
    perms = [()]
    for _ in range(places):
        perms = [begun + (value,) for begun in perms for value in values if value not in begun]
    for perm in perms:
        yield perm


def good_permutations(size, places, *, descending=False):
    """Yields the permutations that are good for a size, in ascending or descending order."""
    for perm in all_permutations(places, descending=descending):
        # `is_good` checks the size, the first time before anything is yielded.
        if is_good(perm, size):
            yield perm
