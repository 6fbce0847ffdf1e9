"""Values and independent computations that several tests share."""

from fractions import Fraction
from itertools import combinations, permutations, product
from random import Random

from tablelaws.matrices import Matrix
from tablelaws.permsums import PermSum
from tablelaws.polys import Poly
from tablelaws.ratios import Ratio

SIZES = (1, 2, 3)
KINDS = ("number", "matrix")
# No sizes.
NO_SIZES = (0, 4, -1, 7)


def ratio(text):
    """The Ratio of a text such as "-1/2", made without Ratio.read."""
    value = Fraction(text)
    return Ratio(value.numerator, value.denominator)


def fraction(value):
    return Fraction(value.num, value.den)


def table(matrix):
    """The entries of a Matrix as a list of lists of Fraction objects."""
    return [[fraction(entry) for entry in row] for row in matrix.rows]


def plain(value):
    """A Ratio as a Fraction, a Matrix as a list of lists."""
    return table(value) if isinstance(value, Matrix) else fraction(value)


def matrix_of(text):
    """The Matrix that is written as "1 2; 3/2 4"."""
    return Matrix([[ratio(entry) for entry in row.split()] for row in text.split(";")])


def poly(kind, *terms):
    """The Poly with terms such as ("1/2", ["x", "xy"], "yx")."""
    return Poly(kind, [(cycles, word, ratio(text)) for text, cycles, word in terms])


def perm_sum(places, **terms):
    """The PermSum with terms such as p213="1/2"."""
    return PermSum(places, [(tuple(map(int, name[1:])), ratio(text)) for name, text in terms.items()])


def shown_sum(permsum):
    """The permutations of a PermSum as texts such as "213", with the written forms of their coefficients."""
    return [("".join(map(str, perm)), str(permsum[perm])) for perm in permsum.perms]


def product_of(first, second):
    """The product of two permutations by point 14."""
    return tuple(first[second[j] - 1] for j in range(len(second)))


def has_decreasing(perm, length):
    """Whether a permutation has a decreasing subsequence of this length, by trying all of them."""
    return any(all(a > b for a, b in zip(chosen, chosen[1:])) for chosen in combinations(perm, length))


def all_perms(places):
    """All permutations of so many places as tuples, in ascending order."""
    return list(permutations(range(1, places + 1)))


def places_in(key, kind):
    """The number of places of a term."""
    cycles, word = key
    return len("".join(cycles) + word) + (kind == "matrix")


def law(kind, *words):
    """The sum over all permutations of words of the sign times the traces of the products along the cycles.

    For kind "matrix" there is a mark besides the words, and what follows the mark in its cycle is the word. The
    polynomial is zero at the size that is one less than the number of words and marks.
    """
    things = list(words) + ([""] if kind == "matrix" else [])
    terms = []
    for perm in permutations(range(len(things))):
        rest, cycles, word, sign = set(perm), [], "", 1
        while rest:
            # The last place comes first: for kind "matrix" this is the mark.
            start = place = max(rest)
            text = ""
            while place in rest:
                rest.remove(place)
                text += things[place]
                place = perm[place]
                sign = -sign
            sign = -sign
            if kind == "matrix" and start == len(words):
                word = text
            else:
                cycles.append(text)
        terms.append((cycles, word, Ratio(sign)))
    return Poly(kind, terms)


def drawn_poly(kind, letters, degree, count, seed):
    """A polynomial of at most `count` drawn terms with at most this degree."""
    draw = Random(seed)
    terms = []
    for _ in range(count):
        text = "".join(draw.choice(letters) for _ in range(draw.randint(0, degree)))
        pieces = []
        while text:
            cut = draw.randint(1, len(text))
            pieces.append(text[:cut])
            text = text[cut:]
        word = pieces.pop() if kind == "matrix" and pieces and draw.random() < 0.7 else ""
        terms.append((pieces, word, Ratio(draw.randint(-9, 9), draw.randint(1, 4))))
    return Poly(kind, terms)


def drawn_polys(degree=4):
    """Drawn polynomials of both kinds."""
    found = []
    for kind in KINDS:
        for seed, letters in enumerate(("x", "xy", "xy", "xyz", "abcd")):
            found.append(drawn_poly(kind, letters, degree, 6, seed))
        found.append(Poly(kind, []))
        found.append(Poly.constant(kind, Ratio(-3, 2)))
    return found


def zero_polys(size):
    """Polynomials of both kinds that are zero at a size, with one content and with several, up to 6 places."""
    letters = "uvwx"
    number = law("number", *letters[:size + 1])
    matrix = law("matrix", *letters[:size])
    same = law("matrix", *"xxx"[:size])
    return [
        number, matrix, same, law("number", *["xy", "x", "y", "x"][:size + 1]),
        law("matrix", *["yx", "x", "y"][:size]), number + law("number", *"xxxx"[:size + 1]).scaled(Ratio(2, 3)),
        matrix - same * Poly.letter("y"), Poly.letter("x") * matrix * Poly.letter("u"),
        number * Poly.letter("x") + matrix.scaled(Ratio(-5)), number * poly("number", ("1/2", ["x", "y"], "")),
        Poly("number", []), Poly("matrix", []),
    ]


def is_zero_somewhere(poly, size, seeds=(1, 2, 3)):
    """Whether the value of a polynomial is zero at each of some drawn matrices."""
    zeros = (Fraction(0), table_scaled(0, unit_table(size)))
    matrices = [some_matrices(poly.used_letters(), size, seed) for seed in seeds]
    return all(poly_value(poly, size, chosen) in zeros for chosen in matrices)


def unit_table(size):
    return [[Fraction(int(i == j)) for j in range(size)] for i in range(size)]


def table_times(first, second):
    size = range(len(first))
    return [[sum((first[i][k] * second[k][j] for k in size), Fraction(0)) for j in size] for i in size]


def table_plus(first, second):
    return [[a + b for a, b in zip(row, other)] for row, other in zip(first, second)]


def table_scaled(factor, rows):
    return [[factor * entry for entry in row] for row in rows]


def table_trace(rows):
    return sum((rows[k][k] for k in range(len(rows))), Fraction(0))


def poly_value(poly, size, matrices):
    """The value of a polynomial by point 10, computed with Fraction objects."""
    tables = {letter: table(matrix) for letter, matrix in matrices.items()}

    def along(word):
        rows = unit_table(size)
        for letter in word:
            rows = table_times(rows, tables[letter])
        return rows

    number = Fraction(0)
    rows = table_scaled(0, unit_table(size))
    for key in poly.terms:
        cycles, word = key
        factor = fraction(poly[key])
        for cycle in cycles:
            factor *= table_trace(along(cycle))
        number += factor
        rows = table_plus(rows, table_scaled(factor, along(word)))
    return number if poly.kind == "number" else rows


def some_matrices(letters, size, seed=1):
    """A matrix of small fractions for each letter; different seeds give different ones."""
    found = {}
    state = seed
    for letter in letters:
        rows = []
        for _ in range(size):
            row = []
            for _ in range(size):
                state = (state * 1103515245 + 12345) % 2147483648
                row.append(Ratio(state // 65536 % 11 - 5, state // 1048576 % 3 + 1))
            rows.append(row)
        found[letter] = Matrix(rows)
    return found


def grid(*lists):
    return list(product(*lists))
