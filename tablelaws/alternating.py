"""Alternating sums of permutations, and relations."""

from tablelaws.listing import all_permutations
from tablelaws.perms import identity, sign
from tablelaws.permsums import PermSum
from tablelaws.ratios import Ratio


def alternating_sum(places, chosen):
    """Returns the sum of all permutations that move chosen places only, each with its sign as its coefficient."""
    count = len(chosen)
    pairs = []
    for order in all_permutations(count):
        images = list(identity(places))
        for place, at in zip(chosen, order):
            images[place - 1] = chosen[at - 1]
        pairs.append((tuple(images), Ratio(sign(order))))
    return PermSum(places, pairs)


def relation_sum(places, relation):
    """Returns the sum of a relation: its permutation times the alternating sum of its chosen places."""
    ratio, perm, chosen = relation
    return PermSum(places, [(perm, ratio)]) * alternating_sum(places, chosen)
