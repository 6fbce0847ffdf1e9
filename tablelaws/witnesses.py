"""Witnesses: matrices at which a polynomial is not zero."""

from tablelaws.cells import choices_of, chosen_sums, moved_row, place_matrices
from tablelaws.decreasing import colours
from tablelaws.evaluating import value_at
from tablelaws.linearizing import MOST_PLACES
from tablelaws.matrices import Matrix
from tablelaws.parts import part_of, parts_in
from tablelaws.ratios import Ratio
from tablelaws.reducing import reduce_parts
from tablelaws.sums import collect


def witness_for(size, poly):
    """Returns a dict from the letters of a polynomial to matrices at which it is not zero, or None if it is zero."""
    for content, good, _ in reduce_parts(size, poly):
        if len(good) > 0:
            base = _part_witness(size, part_of(poly, content), content, good.perms[-1])
            return _whole_witness(size, poly, content, base)
    return None


def _part_witness(size, part, content, perm):
    """Returns the dict from the letters of a content to matrices with entries up to 6 where the part is not zero.

    `perm` is the greatest good permutation of the reduced sum. All other permutations that move its colours in
    the same way are greater, so the cell of the sum is the coefficient of `perm` alone. As this is not zero, the
    part is not zero at one of the choices by which its linear value gives the cell.
    """
    shades = colours(perm)
    matrices = place_matrices(size, shades, moved_row(perm, shades))
    for chosen in choices_of(content):
        sums = chosen_sums(content, matrices, chosen)
        if any([bool(entry) for entry in _entries(value_at(part, size, sums))]):
            return sums
    return None


def _whole_witness(size, poly, content, base):
    """Returns a witness of a polynomial whose part for a content is not zero at the matrices `base`.

    If each matrix is multiplied by a number of its own, the values of the parts are multiplied by products of
    these numbers, different ones for different contents. So some numbers from 0 to 6 keep them from cancelling.
    """
    letters = poly.used_letters()
    matrices = {letter: base.get(letter, Matrix.zero(size)) for letter in letters}
    values = {other: _entries(value_at(part, size, matrices)) for other, part in parts_in(poly)}
    entry = [bool(ratio) for ratio in values[content]].index(True)
    rest = collect([(other, ratios[entry]) for other, ratios in values.items()])
    witness = {}
    for letter in letters:
        options = [_scaled_values(rest, letter, scale) for scale in range(MOST_PLACES + 1)]
        scale = [len(option) > 0 for option in options].index(True)
        rest = options[scale]
        witness[letter] = matrices[letter].scaled(Ratio(scale))
    return witness


def _entries(value):
    """Returns the list of the fractions of which a value consists."""
    if isinstance(value, Matrix):
        return [entry for row in value for entry in row]
    return [value]


def _scaled_values(values, letter, scale):
    """Returns the values for the contents without a letter if its matrix is multiplied by a number.

    `values` is a dict from contents to fractions; values that are zero are left out.
    """
    pairs = []
    for content, ratio in values.items():
        factor = Ratio(scale).power(content.count(letter))
        pairs.append((content.replace(letter, ""), ratio * factor))
    return collect(pairs)
