"""Sums of permutations of the same places with fractions as coefficients."""

from tablelaws.errors import WrongSize
from tablelaws.perms import check_permutation, compose
from tablelaws.ratios import Ratio
from tablelaws.sums import collect


class PermSum:
    """A sum of permutations; `perms` is the tuple of its permutations in ascending order."""

    def __init__(self, places, terms):
        for perm, _ in terms:
            check_permutation(perm, places)
        self.places = places
        self._ratios = collect(terms)
        self.perms = tuple(self._ratios)

    def __len__(self):
        return len(self.perms)

    def __iter__(self):
        return iter(self.perms)

    def __contains__(self, x):
        return x in self._ratios

    def __getitem__(self, at):
        return self._ratios.get(at, Ratio(0))

    def __eq__(self, other):
        return isinstance(other, PermSum) and self.places == other.places and self._ratios == other._ratios

    def __add__(self, other):
        _check_same_places(self, other)
        return PermSum(self.places, self.pairs() + other.pairs())

    def __sub__(self, other):
        return self + -other

    def __mul__(self, other):
        _check_same_places(self, other)
        # The products are added up at once, as a full list of them would be very long.
        found = {}
        for perm, ratio in self._ratios.items():
            for second, factor in other._ratios.items():
                key = compose(perm, second)
                part = ratio * factor
                found[key] = found[key] + part if key in found else part
        return PermSum(self.places, list(found.items()))

    def __neg__(self):
        return self.scaled(Ratio(-1))

    def scaled(self, ratio):
        """Returns the sum with all coefficients multiplied by a fraction."""
        return PermSum(self.places, [(perm, ratio * factor) for perm, factor in self.pairs()])

    def pairs(self):
        """Returns the list of the pairs of a permutation and its coefficient, in ascending order."""
        return list(self._ratios.items())


def _check_same_places(first, second):
    if first.places != second.places:
        raise WrongSize(f"sums of {first.places} and of {second.places} places")
