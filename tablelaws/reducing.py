"""Reducing sums of permutations to good permutations by relations."""

from tablelaws.alternating import relation_terms, signed_orders
from tablelaws.decreasing import decreasing_places
from tablelaws.errors import TooLarge
from tablelaws.linearizing import MOST_PLACES, linearize
from tablelaws.listing import all_permutations
from tablelaws.matrices import check_size
from tablelaws.parts import parts_in
from tablelaws.permsums import PermSum


def reduce_sum(size, permsum):
    """Returns a sum of good permutations and a list of relations; together they are the given sum."""
    check_size(size)
    places = permsum.places
    if places > MOST_PLACES:
        raise TooLarge(f"{places} places")
    rest = {perm: ratio for perm, ratio in permsum.pairs()}
    relations = []
    orders = signed_orders(size + 1)
    # A relation of a permutation changes only lesser ones besides, so each permutation is met once.
    for perm in all_permutations(places, descending=True):
        if perm in rest and rest[perm]:
            chosen = decreasing_places(perm, size + 1)
            if chosen is not None:
                relation = (rest[perm], perm, chosen)
                relations.append(relation)
                _subtract(relation_terms(relation, orders), rest)
    return (PermSum(places, list(rest.items())), relations)


def reduce_parts(size, poly):
    """Returns a list with one tuple for each content in a polynomial: the content and what `reduce_sum` finds."""
    check_size(size)
    found = []
    for content, part in parts_in(poly):
        good, relations = reduce_sum(size, linearize(part, content))
        found.append((content, good, relations))
    return found


def _subtract(terms, rest):
    """Subtracts permutations with coefficients from the dict `rest` from permutations to coefficients."""
    for perm, ratio in terms:
        rest[perm] = rest[perm] - ratio if perm in rest else -ratio
