"""The parts of polynomials: the terms that have the same content."""

from tablelaws.polys import Poly
from tablelaws.words import content_of


def contents_in(poly):
    """Returns the list of the contents of the terms of a polynomial in ascending order, each once."""
    return sorted({content_of(key) for key in poly.terms})


def part_of(poly, content):
    """Returns the polynomial that consists of the terms with this content."""
    triples = poly.triples()
    return Poly(poly.kind, [triple for triple in triples if content_of((triple[0], triple[1])) == content])
