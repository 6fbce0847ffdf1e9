"""Permutations of places, as tuples: the place j is mapped to the item at index j - 1."""

from tablelaws.errors import InvalidPermutation


def check_permutation(perm, places):
    """Raises InvalidPermutation if the tuple is not a permutation of that number of places."""
    if sorted(perm) != list(range(1, places + 1)):
        raise InvalidPermutation(f"not a permutation of {places} places: {perm}")


def identity(places):
    """Returns the permutation that maps each place to itself."""
    return tuple(range(1, places + 1))


def compose(first, second):
    """Returns the product, which maps the place j to first(second(j))."""
    return tuple([first[place - 1] for place in second])


def inverse(perm):
    """Returns the permutation whose product with the given one is the identity."""
    origins = [0] * len(perm)
    for place, image in enumerate(perm, start=1):
        origins[image - 1] = place
    return tuple(origins)


def cycles_of(perm):
    """Returns the tuple of the cycles, each from its least place on, in ascending order of these places."""
    cycles = []
    seen = [False] * len(perm)
    for start in range(1, len(perm) + 1):
        cycle = []
        place = start
        while not seen[place - 1]:
            seen[place - 1] = True
            cycle.append(place)
            place = perm[place - 1]
        if cycle:
            cycles.append(tuple(cycle))
    return tuple(cycles)


def sign(perm):
    """Returns 1 if the number of places minus the number of cycles is even, otherwise -1."""
    odd = (len(perm) - len(cycles_of(perm))) % 2
    return -1 if odd else 1
