"""Alternating sums of permutations, and relations."""

from tablelaws.listing import all_permutations
from tablelaws.perms import check_permutation, identity, sign
from tablelaws.permsums import PermSum
from tablelaws.ratios import Ratio


def alternating_sum(places, chosen):
    """Returns the sum of all permutations that move chosen places only, each with its sign as its coefficient."""
    return relation_sum(places, (Ratio(1), identity(places), chosen))


def relation_sum(places, relation):
    """Returns the sum of a relation: its permutation times the alternating sum of its chosen places."""
    _, perm, chosen = relation
    check_permutation(perm, places)
    return PermSum(places, relation_terms(relation, signed_orders(len(chosen))))


def signed_orders(count):
    """Returns the list of the pairs of a permutation of so many places and its sign, as a fraction."""
    return [(order, Ratio(sign(order))) for order in all_permutations(count)]


def relation_terms(relation, orders):
    """Returns the list of the permutations in the sum of a relation, with their coefficients.

    `orders` are the signed orders of as many places as are chosen. They are the same for many relations.
    """
    ratio, perm, chosen = relation
    moved = [perm[place - 1] for place in chosen]
    terms = []
    for order, factor in orders:
        images = list(perm)
        for place, at in zip(chosen, order):
            images[place - 1] = moved[at - 1]
        terms.append((tuple(images), ratio * factor))
    return terms
