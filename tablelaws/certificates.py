"""Certificates: lists of relations that show that a polynomial is zero at a size."""

from tablelaws.alternating import relation_terms, signed_orders
from tablelaws.errors import InvalidPermutation, WrongKind, WrongSize
from tablelaws.linearizing import MOST_PLACES, check_places, linearize, places_of, restitute
from tablelaws.matrices import check_size
from tablelaws.names import are_small
from tablelaws.parts import parts_in
from tablelaws.perms import identity
from tablelaws.permsums import PermSum
from tablelaws.polys import Poly
from tablelaws.ratios import Ratio
from tablelaws.reducing import reduce_parts


class Certificate:
    """Relations with contents, for a size and a kind; each is a tuple `(content, ratio, perm, chosen)`."""

    def __init__(self, size, kind, relations):
        self.size = size
        self.kind = kind
        self.relations = tuple(relations)

    @staticmethod
    def empty(size, kind):
        """Returns the certificate without relations."""
        return Certificate(size, kind, ())

    @property
    def contents(self):
        """The tuple of the contents of all relations, in ascending order, each once."""
        return tuple(sorted({relation[0] for relation in self.relations}))

    @property
    def well_formed(self):
        """Whether the size is 1, 2 or 3 and each relation is well formed for the size and the kind."""
        if self.size not in (1, 2, 3):
            return False
        return all([_is_well_formed(self.size, self.kind, relation) for relation in self.relations])

    def __iter__(self):
        return iter(self.relations)

    def __eq__(self, other):
        return (isinstance(other, Certificate) and self.size == other.size and self.kind == other.kind
                and self.relations == other.relations)

    def __add__(self, other):
        if self.size != other.size:
            raise WrongSize(f"the sizes {self.size} and {other.size} differ")
        if self.kind != other.kind:
            raise WrongKind(f"the kinds {self.kind} and {other.kind} differ")
        return Certificate(self.size, self.kind, self.relations + other.relations)

    def __neg__(self):
        return self.scaled(Ratio(-1))

    def scaled(self, ratio):
        """Returns the certificate with the fraction of each relation multiplied by a fraction."""
        relations = [(content, ratio * factor, perm, chosen) for content, factor, perm, chosen in self.relations]
        return Certificate(self.size, self.kind, relations)


def certify(size, poly):
    """Returns a certificate for a polynomial that is zero at a size, and None for every other polynomial."""
    relations = []
    for content, good, found in reduce_parts(size, poly):
        if len(good) > 0:
            return None
        relations = relations + [(content, ratio, perm, chosen) for ratio, perm, chosen in found]
    return Certificate(size, poly.kind, relations)


def accepts(certificate, poly):
    """Tells whether a certificate shows that a polynomial is zero at the size of the certificate."""
    check_places(poly)
    if certificate.kind != poly.kind or not certificate.well_formed:
        return False
    # The sum of a part with terms is never without permutations; a total without any counts as no content.
    totals = {content: total for content, total in _totals(certificate).items() if len(total) > 0}
    return totals == {content: linearize(part, content) for content, part in parts_in(poly)}


def conclusion(certificate):
    """Returns the polynomial for which a certificate is accepted."""
    check_size(certificate.size)
    if not certificate.well_formed:
        raise InvalidPermutation("a relation is not well formed")
    triples = []
    for content, total in _totals(certificate).items():
        triples.extend(restitute(total, content, certificate.kind).triples())
    return Poly(certificate.kind, triples)


def _is_well_formed(size, kind, relation):
    content, _, perm, chosen = relation
    places = places_of(content, kind)
    return (are_small(content) and list(content) == sorted(content) and places <= MOST_PLACES
            and sorted(perm) == list(identity(places))
            and len(chosen) == size + 1 and list(chosen) == sorted(set(chosen))
            and all([1 <= place <= places for place in chosen]))


def _totals(certificate):
    """Returns the dict from the contents of the relations to their totals."""
    orders = signed_orders(certificate.size + 1)
    terms = {content: [] for content in certificate.contents}
    for content, ratio, perm, chosen in certificate.relations:
        terms[content].extend(relation_terms((ratio, perm, chosen), orders))
    return {content: PermSum(places_of(content, certificate.kind), terms[content]) for content in terms}
