"""Inversions and decreasing subsequences of permutations."""

from tablelaws.matrices import check_size


def inversions(perm):
    """Returns the number of pairs of places of which the earlier one has the greater value."""
    count = 0
    for place, value in enumerate(perm, start=1):
        count = count + len([later for later in perm[place:] if later < value])
    return count


def longest_decreasing(perm):
    """Returns the greatest length of a decreasing subsequence, 0 if there are no places."""
    return max(colours(perm), default=0)


def decreasing_places(perm, length):
    """Returns the places of a decreasing subsequence of this length, or None if there is none."""
    shades = colours(perm)
    chosen = ()
    # A place of the colour c has earlier places of the colour c - 1. The values of these increase, so the value of
    # the last one is greater than that of the place.
    for place in range(len(perm), 0, -1):
        if shades[place - 1] == length - len(chosen):
            chosen = (place,) + chosen
    return chosen if len(chosen) == length else None


def colours(perm):
    """Returns for each place the greatest length of a decreasing subsequence whose last place it is."""
    found = []
    for value in perm:
        longest = max([shade for earlier, shade in zip(perm, found) if earlier > value], default=0)
        found.append(longest + 1)
    return tuple(found)


def is_good(perm, size):
    """Tells whether a permutation has no decreasing subsequence of size + 1 places."""
    check_size(size)
    return longest_decreasing(perm) <= size
