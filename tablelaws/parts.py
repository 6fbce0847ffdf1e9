"""The parts of polynomials: the terms that have the same content."""

from tablelaws.polys import Poly
from tablelaws.words import content_of


def contents_in(poly):
    """Returns the list of the contents of the terms of a polynomial in ascending order, each once."""
    return sorted({content_of(key) for key in poly.terms})


def part_of(poly, content):
    """Returns the polynomial that consists of the terms with this content."""
    triples = poly.triples()
    return Poly(poly.kind, [triple for triple in triples if content_of((triple[0], triple[1])) == content])


def parts_in(poly):
    """Returns the list of the pairs of a content in a polynomial and the part for it, in ascending order."""
    found = {content: [] for content in contents_in(poly)}
    for cycles, word, ratio in poly.triples():
        found[content_of((cycles, word))].append((cycles, word, ratio))
    return [(content, Poly(poly.kind, triples)) for content, triples in found.items()]
