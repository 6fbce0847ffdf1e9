"""Polynomials of one matrix."""

from tablelaws.errors import InvalidPolynomial, TooLarge
from tablelaws.evaluating import product_along, value_at
from tablelaws.matrices import Matrix, check_size
from tablelaws.polys import Poly
from tablelaws.ratios import Ratio

MOST_DEGREE = 6


def elementary(degree, letter):
    """Returns the elementary polynomial of a letter with this index."""
    found = [Poly.constant("number", Ratio(1))]
    for k in range(1, degree + 1):
        total = Poly("number", [])
        for i in range(1, k + 1):
            total = total + found[k - i] * _trace_of(letter * i).scaled(Ratio(_parity_sign(i - 1), k))
        found.append(total)
    return found[degree]


def characteristic(size, letter):
    """Returns the characteristic polynomial of a letter, whose value is zero for all matrices of the size."""
    check_size(size)
    total = Poly("matrix", [])
    for i in range(size + 1):
        power = Poly.letter(letter).power(size - i)
        total = total + (elementary(i, letter) * power).scaled(Ratio(_parity_sign(i)))
    return total


def reduce_one(size, poly):
    """Returns the short polynomial with the same value for all matrices of the size."""
    check_size(size)
    letter = _only_letter(poly)
    if letter == "":
        return poly
    signed = [elementary(i, letter).scaled(Ratio(_parity_sign(i - 1))) for i in range(1, size + 1)]
    traces = _continued([_trace_of(letter * m) for m in range(1, size + 1)], signed, poly.degree)
    products = {letter * m: trace for m, trace in enumerate(traces, start=1)}
    products[()] = Poly.constant("number", Ratio(1))
    factors = {}
    for cycles, word, ratio in poly.triples():
        factors.setdefault(word, []).extend(product_along(cycles, products).scaled(ratio).triples())
    longest = max([len(word) for word in factors])
    powers = [Poly.constant(poly.kind, Ratio(1))] + [Poly.letter(letter).power(m) for m in range(1, size)]
    words = _continued(powers, signed, longest + 1)
    total = Poly(poly.kind, [])
    for word, triples in factors.items():
        total = total + Poly("number", triples) * words[len(word)]
    return total


def diagonal_matrix(*entries):
    """Returns the matrix with these entries on its diagonal and zeros elsewhere."""
    size = len(entries)
    return Matrix([[entries[row] if row == column else 0 for column in range(size)] for row in range(size)])


def diagonal_witness(size, poly, *, most=6):
    """Returns the first entries of a diagonal matrix at which a polynomial is not zero, or None."""
    check_size(size)
    letter = _only_letter(poly)
    if poly.degree > MOST_DEGREE:
        raise TooLarge(f"the degree {poly.degree}")
    zero = Ratio(0) if poly.kind == "number" else Matrix.zero(size)
    for entries in _tuples(size, most):
        if value_at(poly, size, {letter: diagonal_matrix(*entries)}) != zero:
            return entries
    return None


def _only_letter(poly):
    """Returns the letter that occurs in a polynomial, the empty string if there is none."""
    letters = poly.used_letters()
    if len(letters) > 1:
        raise InvalidPolynomial(f"several letters: {letters}")
    return letters


def _trace_of(word):
    return Poly("number", [([word], "", Ratio(1))])


def _parity_sign(number):
    return -1 if number % 2 else 1


def _continued(begun, signed, count):
    """Returns a list of at least `count` polynomials that begins with the list `begun`.

    Each further one is the sum of those before it, the last one times the first item of `signed`, and so on.
    """
    found = list(begun)
    while len(found) < count:
        total = signed[0] * found[-1]
        for i in range(1, len(signed)):
            total = total + signed[i] * found[-1 - i]
        found.append(total)
    return found


def _tuples(size, most):
    """Returns the list of the tuples of `size` integers from 0 to `most`, in ascending order."""
    tuples = [()]
    for _ in range(size):
        tuples = [begun + (entry,) for begun in tuples for entry in range(most + 1)]
    return tuples
