"""Values and independent computations that several tests share."""

from fractions import Fraction
from itertools import combinations, product

from tablelaws.matrices import Matrix
from tablelaws.permsums import PermSum
from tablelaws.polys import Poly
from tablelaws.ratios import Ratio

SIZES = (1, 2, 3)
KINDS = ("number", "matrix")
# No sizes.
NO_SIZES = (0, 4, -1, 7)


def ratio(text):
    """The Ratio of a text such as "-1/2", made without Ratio.read."""
    value = Fraction(text)
    return Ratio(value.numerator, value.denominator)


def fraction(value):
    return Fraction(value.num, value.den)


def table(matrix):
    """The entries of a Matrix as a list of lists of Fraction objects."""
    return [[fraction(entry) for entry in row] for row in matrix.rows]


def plain(value):
    """A Ratio as a Fraction, a Matrix as a list of lists."""
    return table(value) if isinstance(value, Matrix) else fraction(value)


def matrix_of(text):
    """The Matrix that is written as "1 2; 3/2 4"."""
    return Matrix([[ratio(entry) for entry in row.split()] for row in text.split(";")])


def poly(kind, *terms):
    """The Poly with terms such as ("1/2", ["x", "xy"], "yx")."""
    return Poly(kind, [(cycles, word, ratio(text)) for text, cycles, word in terms])


def perm_sum(places, **terms):
    """The PermSum with terms such as p213="1/2"."""
    return PermSum(places, [(tuple(map(int, name[1:])), ratio(text)) for name, text in terms.items()])


def shown_sum(permsum):
    """The permutations of a PermSum as texts such as "213", with the written forms of their coefficients."""
    return [("".join(map(str, perm)), str(permsum[perm])) for perm in permsum.perms]


def product_of(first, second):
    """The product of two permutations by point 14."""
    return tuple(first[second[j] - 1] for j in range(len(second)))


def has_decreasing(perm, length):
    """Whether a permutation has a decreasing subsequence of this length, by trying all of them."""
    return any(all(a > b for a, b in zip(chosen, chosen[1:])) for chosen in combinations(perm, length))


def unit_table(size):
    return [[Fraction(int(i == j)) for j in range(size)] for i in range(size)]


def table_times(first, second):
    size = range(len(first))
    return [[sum((first[i][k] * second[k][j] for k in size), Fraction(0)) for j in size] for i in size]


def table_plus(first, second):
    return [[a + b for a, b in zip(row, other)] for row, other in zip(first, second)]


def table_scaled(factor, rows):
    return [[factor * entry for entry in row] for row in rows]


def table_trace(rows):
    return sum((rows[k][k] for k in range(len(rows))), Fraction(0))


def poly_value(poly, size, matrices):
    """The value of a polynomial by point 10, computed with Fraction objects."""
    tables = {letter: table(matrix) for letter, matrix in matrices.items()}

    def along(word):
        rows = unit_table(size)
        for letter in word:
            rows = table_times(rows, tables[letter])
        return rows

    number = Fraction(0)
    rows = table_scaled(0, unit_table(size))
    for key in poly.terms:
        cycles, word = key
        factor = fraction(poly[key])
        for cycle in cycles:
            factor *= table_trace(along(cycle))
        number += factor
        rows = table_plus(rows, table_scaled(factor, along(word)))
    return number if poly.kind == "number" else rows


def some_matrices(letters, size, seed=1):
    """A matrix of small fractions for each letter; different seeds give different ones."""
    found = {}
    state = seed
    for letter in letters:
        rows = []
        for _ in range(size):
            row = []
            for _ in range(size):
                state = (state * 1103515245 + 12345) % 2147483648
                row.append(Ratio(state // 65536 % 11 - 5, state // 1048576 % 3 + 1))
            rows.append(row)
        found[letter] = Matrix(rows)
    return found


def grid(*lists):
    return list(product(*lists))
