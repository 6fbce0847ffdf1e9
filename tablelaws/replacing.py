"""Replacing the letters of polynomials, and reversing their words."""

from tablelaws.errors import WrongKind
from tablelaws.evaluating import product_along
from tablelaws.matrices import check_size
from tablelaws.polys import Poly
from tablelaws.ratios import Ratio


def substitute(poly, replacements, size):
    """Returns the polynomial in which letters are replaced by the polynomials of a dict, for matrices of a size."""
    check_size(size)
    for letter, replacement in replacements.items():
        if replacement.kind == "number":
            raise WrongKind(f"the letter {letter} is replaced by a number")
    products = {letter: replacements.get(letter, Poly.letter(letter)) for letter in poly.used_letters()}
    products[""] = Poly.constant("matrix", Ratio(1))
    triples = []
    for cycles, word, ratio in poly.triples():
        part = product_along(word, products).scaled(ratio)
        for cycle in cycles:
            part = part * product_along(cycle, products).traced(size)
        triples = triples + part.triples()
    return Poly(poly.kind, triples)


def renamed(poly, **names):
    """Returns the polynomial in which the letters that are keywords are replaced by the letters passed for them."""
    triples = []
    for cycles, word, ratio in poly.triples():
        triples.append(([_renamed_word(cycle, names) for cycle in cycles], _renamed_word(word, names), ratio))
    return Poly(poly.kind, triples)


def reversed_poly(poly):
    """Returns the polynomial in which all words and cyclic words are read from right to left."""
    triples = []
    for cycles, word, ratio in poly.triples():
        triples.append(([cycle[::-1] for cycle in cycles], word[::-1], ratio))
    return Poly(poly.kind, triples)


def _renamed_word(word, names):
    return "".join([names.get(letter, letter) for letter in word])
