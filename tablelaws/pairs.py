"""Polynomials of two matrices of size 2.

At this size every product of two matrices x and y is a sum of the short words, which are the empty word, x, y and xy,
multiplied by products of the numbers tr(x), tr(y), tr(xy), d(x) and d(y). A product of these numbers is written
here as the tuple of its five exponents, and a sum as a dict from pairs of a short word and exponents to integers.
"""

from tablelaws.errors import InvalidPolynomial
from tablelaws.names import are_small
from tablelaws.onematrix import elementary
from tablelaws.polys import Poly
from tablelaws.ratios import Ratio

# What becomes of a short word when a letter is put behind it: summands, each a short word, a factor and exponents.
STEPS = {
    ("", "x"): (("x", 1, (0, 0, 0, 0, 0)),),
    ("", "y"): (("y", 1, (0, 0, 0, 0, 0)),),
    ("x", "x"): (("x", 1, (1, 0, 0, 0, 0)), ("", -1, (0, 0, 0, 1, 0))),
    ("x", "y"): (("xy", 1, (0, 0, 0, 0, 0)),),
    ("y", "x"): (("xy", -1, (0, 0, 0, 0, 0)), ("x", 1, (0, 1, 0, 0, 0)), ("y", 1, (1, 0, 0, 0, 0)),
                 ("", 1, (0, 0, 1, 0, 0)), ("", -1, (1, 1, 0, 0, 0))),
    ("y", "y"): (("y", 1, (0, 1, 0, 0, 0)), ("", -1, (0, 0, 0, 0, 1))),
    # This is xyx, in which the replacement of yx leaves an xx.
    ("xy", "x"): (("x", 1, (0, 0, 1, 0, 0)), ("y", 1, (0, 0, 0, 1, 0)), ("", -1, (0, 1, 0, 1, 0))),
    ("xy", "y"): (("xy", 1, (0, 1, 0, 0, 0)), ("x", -1, (0, 0, 0, 0, 1))),
}
# The traces of the short words: a factor and exponents.
TRACES = {
    "": (2, (0, 0, 0, 0, 0)), "x": (1, (1, 0, 0, 0, 0)), "y": (1, (0, 1, 0, 0, 0)), "xy": (1, (0, 0, 1, 0, 0)),
}
NOTHING = (0, 0, 0, 0, 0)


def reduce_pair(poly, letters):
    """Returns the polynomial that is short for the pair and has the same value for all matrices of size 2."""
    _check_letters(poly, letters)
    known = {"": {("", NOTHING): 1}}
    total = {}
    for cycles, word, ratio in poly.triples():
        product = _sum_along(_renamed(word, letters), known)
        for cycle in cycles:
            product = _times_number(product, _traced(_sum_along(_renamed(cycle, letters), known)))
        for key, factor in product.items():
            part = ratio * Ratio(factor)
            total[key] = total[key] + part if key in total else part
    return _poly_of(poly.kind, total, letters)


def _check_letters(poly, letters):
    """Raises InvalidPolynomial if `letters` is not two ascending letters, or the polynomial has other letters."""
    if len(letters) != 2 or not are_small(letters) or letters[0] >= letters[1]:
        raise InvalidPolynomial(f"not two different letters in ascending order: {letters!r}")
    if not all([letter in letters for letter in poly.used_letters()]):
        raise InvalidPolynomial(f"the letters {poly.used_letters()}")


def _renamed(word, letters):
    return "".join(["x" if letter == letters[0] else "y" for letter in word])


def _sum_along(word, known):
    """Returns the sum for the product along a word; `known` has the sums for the beginnings of words."""
    if word not in known:
        found = {}
        for (begun, exponents), factor in _sum_along(word[:-1], known).items():
            for short, sign, more in STEPS[(begun, word[-1])]:
                _add(found, (short, _plus(exponents, more)), sign * factor)
        known[word] = found
    return known[word]


def _traced(terms):
    """Returns the trace of a sum: a dict from exponents to integers."""
    found = {}
    for (short, exponents), factor in terms.items():
        number, more = TRACES[short]
        _add(found, _plus(exponents, more), number * factor)
    return found


def _times_number(terms, numbers):
    """Returns the product of a sum and a dict from exponents to integers."""
    found = {}
    for (short, exponents), factor in terms.items():
        for more, number in numbers.items():
            _add(found, (short, _plus(exponents, more)), number * factor)
    return found


def _add(found, key, number):
    found[key] = found.get(key, 0) + number


def _plus(exponents, more):
    return tuple([a + b for a, b in zip(exponents, more)])


def _poly_of(kind, total, letters):
    """Returns the polynomial of a sum, in which d(x) and d(y) are written as polynomials, too."""
    first, second = letters
    triples = []
    for (short, exponents), ratio in total.items():
        a, b, c, d, e = exponents
        word = short.replace("x", "X").replace("y", second).replace("X", first)
        cycles = [first] * a + [second] * b + [letters] * c
        part = Poly(kind, [(cycles, word, ratio)]) * elementary(2, first).power(d) * elementary(2, second).power(e)
        triples.extend(part.triples())
    return Poly(kind, triples)
