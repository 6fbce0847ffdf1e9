"""The polynomials of programs."""

from tablelaws.matrices import check_size
from tablelaws.polys import Poly
from tablelaws.ratios import Ratio


def expand_steps(program, size):
    """Returns the list of the polynomials of all steps of a program, for matrices of a size."""
    check_size(size)
    polys = []
    for step in program.steps:
        polys.append(_step_poly(step, polys, size))
    return polys


def expand(program, size):
    """Returns the polynomial of the result of a program, for matrices of a size."""
    return expand_steps(program, size)[program.result]


def _step_poly(step, polys, size):
    """Returns the polynomial of a step from those of the earlier steps."""
    word = step[0]
    if word == "letter":
        return Poly.letter(step[1])
    if word == "one":
        return Poly.constant("matrix", Ratio(1))
    if word == "const":
        return Poly.constant("number", step[1])
    if word == "scale":
        return polys[step[2]].scaled(step[1])
    if word == "trace":
        return polys[step[1]].traced(size)
    if word == "power":
        return polys[step[1]].power(step[2])
    return _pair_poly(word, polys[step[1]], polys[step[2]])


def _pair_poly(word, first, second):
    """Returns the sum, the difference or the product of two polynomials."""
    if word == "sum":
        return first + second
    if word == "diff":
        return first - second
    return first * second
