"""What polynomials and sums of permutations have in common: keys with fractions as coefficients."""


def collect(pairs):
    """Returns the dict from the keys of pairs, in ascending order, to the sums of their fractions that are not zero."""
    found = {}
    for key, ratio in pairs:
        found[key] = found[key] + ratio if key in found else ratio
    return {key: found[key] for key in sorted(found) if found[key]}
