"""Comparing polynomials and programs at a size."""

from tablelaws.certificates import certify
from tablelaws.expanding import expand
from tablelaws.matrices import Matrix, check_size
from tablelaws.normalforms import is_zero
from tablelaws.witnesses import witness_for


class Verdict:
    """The result of a comparison: a certificate if the two sides are alike, otherwise matrices that part them."""

    def __init__(self, alike, certificate, matrices):
        self.alike = alike
        self.certificate = certificate
        self.matrices = matrices

    def __bool__(self):
        return bool(self.alike)


def compare_polys(size, first, second):
    """Returns the verdict about two polynomials at a size."""
    check_size(size)
    difference = first - second
    certificate = certify(size, difference)
    if certificate is None:
        return Verdict(False, None, witness_for(size, difference))
    return Verdict(True, certificate, None)


def compare_programs(size, first, second):
    """Returns the verdict about two programs at a size; its matrices are for all letters of the programs."""
    verdict = compare_polys(size, expand(first, size), expand(second, size))
    if verdict.alike:
        return verdict
    matrices = {}
    for letter in sorted(set(first.letters + second.letters)):
        matrices[letter] = verdict.matrices.get(letter, Matrix.zero(size))
    return Verdict(False, None, matrices)


def alike_sizes(first, second):
    """Returns the tuple of the sizes at which two programs are alike."""
    sizes = []
    for size in (1, 2, 3):
        if is_zero(size, expand(first, size) - expand(second, size)):
            sizes.append(size)
    return tuple(sizes)
