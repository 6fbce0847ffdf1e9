"""Polynomials of words with different letters: matrices at which they are not zero."""

from tablelaws.errors import InvalidPolynomial, TooLarge
from tablelaws.matrices import check_size
from tablelaws.parts import contents_in
from tablelaws.staircases import doubled_staircase, staircase


def word_witness(size, poly):
    """Returns matrices at which a polynomial of words is not zero, or None if it is zero at the size."""
    check_size(size)
    _check_form(poly)
    words = [word for _, word in poly.terms]
    if not words:
        return None
    length = len(words[0])
    if length > 2 * size:
        raise TooLarge(f"words of {length} letters at size {size}")
    if length < 2 * size:
        return staircase(size, words[0])
    for word in words:
        for place in range(1, 2 * size):
            if poly[((), word)] + poly[((), _exchanged(word, place))]:
                return doubled_staircase(size, word, place)
    return None


def _check_form(poly):
    """Raises InvalidPolynomial if a polynomial does not consist of words that have the same different letters."""
    if poly.kind != "matrix" or any([cycles != () for cycles, word in poly.terms]):
        raise InvalidPolynomial("not a polynomial of words")
    contents = contents_in(poly)
    if len(contents) > 1 or any([len(set(content)) < len(content) for content in contents]):
        raise InvalidPolynomial("not all words have the same different letters")


def _exchanged(word, place):
    """Returns the word with the letters at a place and at the next one exchanged."""
    return word[:place - 1] + word[place] + word[place - 1] + word[place + 1:]
