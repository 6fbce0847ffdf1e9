"""Probes: functions from polynomials to fractions that tell whether a polynomial is zero at a size."""

from tablelaws.cells import cell_of, moved_row
from tablelaws.decreasing import colours, is_good
from tablelaws.errors import InvalidPermutation, TooLarge, WrongKind
from tablelaws.linearizing import MOST_PLACES, linearize, places_of
from tablelaws.listing import good_permutations
from tablelaws.matrices import check_size
from tablelaws.perms import check_permutation


class Probe:
    """A probe: calling it with a polynomial of its kind returns a cell of the polynomial's linear sum."""

    def __init__(self, size, content, kind, columns, rows):
        self.size = size
        self.content = content
        self.kind = kind
        self.columns = columns
        self.rows = rows

    def __eq__(self, other):
        return (isinstance(other, Probe) and self.size == other.size and self.content == other.content
                and self.kind == other.kind and self.columns == other.columns and self.rows == other.rows)

    def __call__(self, poly):
        if poly.kind != self.kind:
            raise WrongKind(f"a probe of kind {self.kind} at a polynomial of kind {poly.kind}")
        return cell_of(linearize(poly, self.content), self.columns, self.rows)


def probe_of(size, content, kind, perm):
    """Returns the probe of a permutation that is good for the size."""
    check_size(size)
    check_permutation(perm, places_of(content, kind))
    if not is_good(perm, size):
        raise InvalidPermutation(f"not good for size {size}: {perm}")
    shades = colours(perm)
    return Probe(size, content, kind, shades, moved_row(perm, shades))


def probes_of(size, content, kind):
    """Returns the list of the probes of all good permutations, in ascending order of the permutations."""
    check_size(size)
    places = places_of(content, kind)
    if places > MOST_PLACES:
        raise TooLarge(f"{places} places")
    return [probe_of(size, content, kind, perm) for perm in good_permutations(size, places)]
