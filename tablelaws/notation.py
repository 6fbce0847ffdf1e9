"""The written form of polynomials."""

from tablelaws.errors import InvalidNumber, InvalidPolynomial
from tablelaws.names import are_small
from tablelaws.polys import Poly
from tablelaws.ratios import Ratio

# The words of a written term: the coefficient, the cyclic words and, for kind matrix, the word.
WORDS_OF_TERM = {"number": 2, "matrix": 3}


def show_poly(poly):
    """Returns the written form of a polynomial."""
    return " | ".join([poly.kind] + [_show_term(poly.kind, triple) for triple in poly.triples()])


def read_poly(text):
    """Returns the polynomial that a text writes."""
    parts = text.split(" | ")
    kind, *terms = parts
    if kind not in WORDS_OF_TERM:
        raise InvalidPolynomial(f"not a kind: {kind!r}")
    poly = Poly(kind, [_read_term(kind, term) for term in terms])
    # This one test leaves out coefficients that are zero, other outer signs than brackets around cyclic words, and
    # everything that does not stand in order.
    if show_poly(poly) != text:
        raise InvalidPolynomial(f"not the written form of a polynomial: {text!r}")
    return poly


def _show_term(kind, triple):
    cycles, word, ratio = triple
    text = str(ratio) + " " + ("".join([f"({cycle})" for cycle in cycles]) or "-")
    if kind == "matrix":
        text = text + " " + (word or "-")
    return text


def _read_term(kind, text):
    """Returns the triple of cyclic words, word and coefficient that the text of a term writes."""
    words = text.split(" ")
    if len(words) != WORDS_OF_TERM[kind]:
        raise InvalidPolynomial(f"not a term of kind {kind}: {text!r}")
    try:
        ratio = Ratio.read(words[0])
    except InvalidNumber:
        raise InvalidPolynomial(f"not a coefficient: {words[0]!r}") from None
    cycles = [] if words[1] == "-" else [_read_word(cycle) for cycle in words[1][1:-1].split(")(")]
    word = "" if kind == "number" or words[2] == "-" else _read_word(words[2])
    return (cycles, word, ratio)


def _read_word(text):
    if text == "" or not are_small(text):
        raise InvalidPolynomial(f"not a word: {text!r}")
    return text
