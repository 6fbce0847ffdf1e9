import unittest
from itertools import product

from helpers import (KINDS, NO_SIZES, SIZES, drawn_poly, is_zero_somewhere, matrix_of, poly, poly_value, ratio,
                     some_matrices, table_scaled, unit_table)

from tablelaws.errors import InvalidPolynomial, TooLarge, WrongSize
from tablelaws.matrices import Matrix
from tablelaws.normalforms import is_zero
from tablelaws.notation import read_poly, show_poly
from tablelaws.onematrix import characteristic, diagonal_matrix, diagonal_witness, elementary, reduce_one
from tablelaws.polys import Poly
from tablelaws.ratios import Ratio

TWO_LETTERS = (poly("number", ("1", ["xy"], "")), poly("matrix", ("1", ["x"], "y")), poly("matrix", ("1", [], "ab")),
               poly("number", ("1", ["x"], ""), ("1", ["y"], "")), poly("matrix", ("1", [], "x"), ("1", ["z"], "")))
DRAWN = [drawn_poly(kind, letter, degree, 8, seed)
         for seed, (kind, letter, degree) in enumerate(product(KINDS, "xa", (3, 6, 9)))]


def has_value_zero(value, size, matrices):
    return poly_value(value, size, matrices) in (0, table_scaled(0, unit_table(size)))


class ElementaryTest(unittest.TestCase):
    def test_by_hand(self):
        for degree, text in enumerate((
                "number | 1 -", "number | 1 (x)", "number | 1/2 (x)(x) | -1/2 (xx)",
                "number | 1/6 (x)(x)(x) | -1/2 (x)(xx) | 1/3 (xxx)",
                "number | 1/24 (x)(x)(x)(x) | -1/4 (x)(x)(xx) | 1/3 (x)(xxx) | 1/8 (xx)(xx) | -1/4 (xxxx)")):
            self.assertEqual(show_poly(elementary(degree, "x")), text)
        self.assertEqual(show_poly(elementary(2, "b")), "number | 1/2 (b)(b) | -1/2 (bb)")
        self.assertEqual(elementary(0, "b"), Poly.constant("number", Ratio(1)))

    def test_the_sums_of_point_127(self):
        for letter in "xq":
            for k in range(1, 7):
                total = poly("number")
                for i in range(1, k + 1):
                    trace = poly("number", (str((-1) ** (i - 1)), [letter * i], ""))
                    total = total + elementary(k - i, letter) * trace
                found = elementary(k, letter)
                self.assertEqual(found.scaled(Ratio(k)), total)
                self.assertEqual(found.kind, "number")
                self.assertEqual(found.degree, k)

    def test_values_at_diagonal_matrices(self):
        for entries in ((2, 3, 5), (1, 1, 4), (0, -2, 7)):
            matrices = {"x": diagonal_matrix(*entries)}
            a, b, c = entries
            expected = [1, a + b + c, a * b + a * c + b * c, a * b * c, 0, 0, 0]
            self.assertEqual([poly_value(elementary(k, "x"), 3, matrices) for k in range(7)], expected)


class CharacteristicTest(unittest.TestCase):
    def test_by_hand(self):
        self.assertEqual(show_poly(characteristic(1, "x")), "matrix | 1 - x | -1 (x) -")
        self.assertEqual(show_poly(characteristic(2, "x")),
                         "matrix | 1 - xx | -1 (x) x | 1/2 (x)(x) - | -1/2 (xx) -")
        self.assertEqual(show_poly(characteristic(3, "a")),
                         "matrix | 1 - aaa | -1 (a) aa | 1/2 (a)(a) a | -1/6 (a)(a)(a) - | 1/2 (a)(aa) - "
                         "| -1/2 (aa) a | -1/3 (aaa) -")

    def test_values(self):
        for size in SIZES:
            for letter in "xk":
                value = characteristic(size, letter)
                self.assertEqual((value.kind, value.degree, value.used_letters()), ("matrix", size, letter))
                for seed in range(1, 6):
                    self.assertTrue(has_value_zero(value, size, some_matrices(letter, size, seed)))
                self.assertTrue(is_zero(size, value))
                for greater in range(size + 1, 4):
                    self.assertFalse(is_zero(greater, value))

    def test_wrong_size(self):
        for size in NO_SIZES:
            with self.assertRaises(WrongSize):
                characteristic(size, "x")


class ReduceTest(unittest.TestCase):
    def assert_short(self, size, value):
        found = reduce_one(size, value)
        self.assertIsInstance(found, Poly)
        self.assertEqual(found.kind, value.kind)
        self.assertIn(found.used_letters(), ("", value.used_letters()))
        for cycles, word in found:
            self.assertLess(len(word), size)
            self.assertTrue(all(len(cycle) <= size for cycle in cycles))
        letter = value.used_letters()
        for seed in (1, 2):
            matrices = some_matrices(letter, size, seed)
            self.assertEqual(poly_value(found, size, matrices), poly_value(value, size, matrices))
        self.assertEqual(reduce_one(size, found), found)
        return found

    def test_examples(self):
        self.assertEqual(show_poly(reduce_one(2, read_poly("number | 1 (xxx)"))),
                         "number | -1/2 (x)(x)(x) | 3/2 (x)(xx)")
        for m in range(1, 21):
            self.assertEqual(reduce_one(1, poly("number", ("1", ["x" * m], ""))), poly("number", ("1", ["x"] * m, "")))
            self.assertEqual(reduce_one(1, poly("matrix", ("1", [], "x" * m))), poly("matrix", ("1", ["x"] * m, "")))

    def test_by_hand(self):
        self.assertEqual(show_poly(reduce_one(2, read_poly("matrix | 1 - xx"))),
                         "matrix | 1 (x) x | -1/2 (x)(x) - | 1/2 (xx) -")
        self.assertEqual(show_poly(reduce_one(3, read_poly("number | 3 (xxx)"))), "number | 3 (xxx)")
        self.assertEqual(show_poly(reduce_one(1, read_poly("matrix | 1 - - | 2 - aa | 3 (a) a | 4 (aa) -"))),
                         "matrix | 1 - - | 9 (a)(a) -")

    def test_drawn(self):
        for size in SIZES:
            for value in DRAWN:
                self.assert_short(size, value)

    def test_short_polynomials_stay(self):
        for size in SIZES:
            for value in (poly("number"), poly("matrix"), poly("number", ("3", [], "")),
                          poly("matrix", ("-1/2", [], "")),
                          poly("matrix", ("1", ["x"], ""), ("2", ["x" * size, "x"], "x" * (size - 1))),
                          poly("number", ("1", ["z", "z"], ""), ("5", ["z" * size], ""))):
                self.assertEqual(reduce_one(size, value), value)
                self.assertEqual(reduce_one(size, value).kind, value.kind)

    def test_equal_exactly_if_alike(self):
        for size in SIZES:
            for value in DRAWN:
                zero = characteristic(size, value.used_letters())
                if value.kind == "number":
                    zero = (zero * zero).traced(size)
                self.assertEqual(reduce_one(size, zero), poly(value.kind))
                self.assertEqual(reduce_one(size, value + zero), reduce_one(size, value))
                if value.degree < 5:
                    other = value + poly(value.kind, ("1", [value.used_letters()] * 3, ""))
                    self.assertNotEqual(reduce_one(size, other), reduce_one(size, value))

    def test_long_words(self):
        for size in SIZES:
            found = self.assert_short(size, poly("number", ("1", ["x" * 20], "")))
            self.assertEqual(found.degree, 20)
            self.assert_short(size, poly("matrix", ("2", ["xxxx"] * 2, "x" * 12), ("1/3", ["x" * 10], "x" * 10)))

    def test_errors(self):
        for size in NO_SIZES:
            for value in TWO_LETTERS + (poly("number"), poly("matrix", ("1", [], "x"))):
                with self.assertRaises(WrongSize):
                    reduce_one(size, value)
        for size in SIZES:
            for value in TWO_LETTERS:
                with self.assertRaises(InvalidPolynomial):
                    reduce_one(size, value)


class DiagonalMatrixTest(unittest.TestCase):
    def test_entries(self):
        self.assertEqual(diagonal_matrix(5), matrix_of("5"))
        self.assertEqual(diagonal_matrix(1, Ratio(-2, 3)), matrix_of("1 0; 0 -2/3"))
        self.assertEqual(diagonal_matrix(Ratio(1, 2), 0, -7), matrix_of("1/2 0 0; 0 0 0; 0 0 -7"))
        self.assertIsInstance(diagonal_matrix(0, 0), Matrix)

    def test_other_numbers_of_entries(self):
        for entries in ((), (1, 2, 3, 4), (Ratio(1),) * 5, (0,) * 9):
            with self.assertRaises(WrongSize):
                diagonal_matrix(*entries)


class DiagonalWitnessTest(unittest.TestCase):
    def first(self, size, value, most):
        letter = value.used_letters()
        for entries in product(range(most + 1), repeat=size):
            rows = [[entries[i] if i == j else 0 for j in range(size)] for i in range(size)]
            if not has_value_zero(value, size, {letter: Matrix(rows)} if letter else {}):
                return entries
        return None

    def test_by_hand(self):
        trace = poly("number", ("1", ["x"], ""))
        self.assertEqual(diagonal_witness(1, trace), (1,))
        self.assertEqual(diagonal_witness(3, trace), (0, 0, 1))
        self.assertEqual(diagonal_witness(2, trace - poly("number", ("1", [], ""))), (0, 0))
        self.assertEqual(diagonal_witness(2, poly("number", ("1", ["xx"], ""), ("-1", ["x"], ""))), (0, 2))
        self.assertEqual(diagonal_witness(3, elementary(3, "x")), (1, 1, 1))
        self.assertEqual(diagonal_witness(2, poly("matrix", ("1", [], "a"), ("-1", [], "aa"))), (0, 2))
        # tr(x) (tr(x) - 1) .. (tr(x) - 5) is not zero at 6 only.
        steep = poly("number", ("1", [], ""))
        for k in range(6):
            steep = steep * poly("number", ("1", ["x"], ""), (str(-k), [], ""))
        self.assertEqual(diagonal_witness(1, steep), (6,))
        self.assertEqual(diagonal_witness(2, steep), (0, 6))
        self.assertEqual(diagonal_witness(2, steep, most=5), (1, 5))
        self.assertEqual(diagonal_witness(2, steep, most=3), (3, 3))
        self.assertIsNone(diagonal_witness(2, steep, most=2))
        self.assertIsNone(diagonal_witness(1, steep, most=5))

    def test_the_first_tuple(self):
        for size in SIZES:
            for value in DRAWN:
                if value.degree <= 6:
                    for most in (0, 1, 3, 6):
                        found = diagonal_witness(size, value, most=most)
                        self.assertEqual(found, self.first(size, value, most))
                        if found is not None:
                            self.assertIsInstance(found, tuple)
                    self.assertEqual(diagonal_witness(size, value), self.first(size, value, 6))

    def test_most(self):
        value = poly("number", ("1", ["xx"], ""), ("-1", ["x"], ""))
        for most, expected in ((0, None), (1, None), (2, (2,)), (3, (2,)), (6, (2,))):
            self.assertEqual(diagonal_witness(1, value, most=most), expected)
        with self.assertRaises(TypeError):
            diagonal_witness(1, value, 6)

    def test_zero(self):
        for size in SIZES:
            for value in (characteristic(size, "x"), poly("number"), poly("matrix"),
                          (characteristic(size, "x") * characteristic(size, "x")).traced(size)):
                self.assertIsNone(diagonal_witness(size, value))
                self.assertTrue(is_zero(size, value))
            for value in DRAWN:
                if value.degree <= 5:
                    self.assertEqual(diagonal_witness(size, value) is None, is_zero(size, value))
                    self.assertEqual(is_zero_somewhere(value, size), is_zero(size, value))

    def test_without_letters(self):
        for size in SIZES:
            for kind in KINDS:
                value = poly(kind, ("-1/2", [], ""))
                for most in (0, 6):
                    self.assertEqual(diagonal_witness(size, value, most=most), (0,) * size)
                    self.assertIsNone(diagonal_witness(size, poly(kind), most=most))

    def test_fractions(self):
        value = poly("number", ("1/2", ["x"], ""), ("-3/2", [], ""))
        self.assertEqual(value[((), "")], ratio("-3/2"))
        self.assertEqual(diagonal_witness(1, value, most=3), (0,))
        self.assertEqual(diagonal_witness(1, value * poly("number", ("1", ["x"], "")), most=3), (1,))

    def test_errors(self):
        long = poly("number", ("1", ["x" * 7], ""))
        long_pair = poly("matrix", ("1", ["x" * 7], "y"))
        for size in NO_SIZES:
            for value in TWO_LETTERS + (long, long_pair, poly("number"), poly("matrix", ("1", [], "x"))):
                with self.assertRaises(WrongSize):
                    diagonal_witness(size, value)
        for size in SIZES:
            for value in TWO_LETTERS + (long_pair,):
                with self.assertRaises(InvalidPolynomial):
                    diagonal_witness(size, value)
            for value in (long, poly("matrix", ("1", [], "xxxxxxx")),
                          poly("matrix", ("1", ["xxxx"], "xxx"), ("1", [], ""))):
                with self.assertRaises(TooLarge):
                    diagonal_witness(size, value)
            self.assertEqual(diagonal_witness(size, poly("number", ("1", ["xxxxxx"], ""))), (0,) * (size - 1) + (1,))


if __name__ == "__main__":
    unittest.main()
