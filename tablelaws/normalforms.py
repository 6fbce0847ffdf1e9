"""Normal forms: two polynomials are alike at a size exactly if their normal forms are equal."""

from tablelaws.linearizing import restitute
from tablelaws.polys import Poly
from tablelaws.reducing import reduce_parts


def normal_form(size, poly):
    """Returns the normal form of a polynomial at a size."""
    triples = []
    for content, good, _ in reduce_parts(size, poly):
        triples.extend(restitute(good, content, poly.kind).triples())
    return Poly(poly.kind, triples)


def is_zero(size, poly):
    """Tells whether a polynomial is zero for all matrices of a size."""
    return len(normal_form(size, poly)) == 0
