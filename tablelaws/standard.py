"""Standard polynomials: sums over all orders of some letters or matrices, with signs."""

from tablelaws.errors import TooLarge, WrongSize
from tablelaws.listing import all_permutations
from tablelaws.matrices import Matrix, check_size
from tablelaws.perms import sign
from tablelaws.polys import Poly
from tablelaws.ratios import Ratio

MOST_LETTERS = 5


def standard(letters):
    """Returns the standard polynomial of a string of letters."""
    _check_length(letters)
    triples = []
    for perm in all_permutations(len(letters)):
        triples.append(((), _letters_at(letters, perm), Ratio(sign(perm))))
    return Poly("matrix", triples)


def split_standard(letters, count):
    """Returns the list of the triples of sign, chosen part and other part for all choices of so many places."""
    _check_length(letters)
    triples = []
    for chosen in _choices(len(letters), count):
        others = tuple([place for place in range(1, len(letters) + 1) if place not in chosen])
        triples.append((sign(chosen + others), _letters_at(letters, chosen), _letters_at(letters, others)))
    return triples


def standard_value(size, matrices):
    """Returns the sum over all orders of some matrices of the sign of the order times their product."""
    check_size(size)
    for matrix in matrices:
        if matrix.size != size:
            raise WrongSize(f"a matrix of size {matrix.size} at size {size}")
    return _signed_sum(tuple(range(len(matrices))), matrices, {(): Matrix.one(size)})


def _check_length(letters):
    if len(letters) > MOST_LETTERS:
        raise TooLarge(f"{len(letters)} letters")


def _letters_at(letters, places):
    return "".join([letters[place - 1] for place in places])


def _choices(places, count):
    """Returns the list of the ascending tuples of `count` different places, in ascending order."""
    choices = [()]
    for place in range(1, places + 1):
        choices = choices + [choice + (place,) for choice in choices]
    return sorted([choice for choice in choices if len(choice) == count])


def _signed_sum(indices, matrices, known):
    """Returns the standard value of the matrices with these indices, in ascending order.

    `known` has the values that are found, as the same indices are left behind many choices of the first ones.
    """
    if indices not in known:
        total = Matrix.zero(matrices[0].size)
        for k, index in enumerate(indices):
            part = matrices[index] * _signed_sum(indices[:k] + indices[k + 1:], matrices, known)
            # To stand first, the index passes the k indices before it.
            total = total - part if k % 2 else total + part
        known[indices] = total
    return known[indices]
