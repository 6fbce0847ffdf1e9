import unittest

from helpers import KINDS, drawn_poly, is_zero_somewhere, law, poly, poly_value, some_matrices

from tablelaws.errors import InvalidPolynomial
from tablelaws.normalforms import is_zero
from tablelaws.notation import read_poly, show_poly
from tablelaws.onematrix import reduce_one
from tablelaws.pairs import reduce_pair
from tablelaws.polys import Poly
from tablelaws.ratios import Ratio

DRAWN = [(drawn_poly(kind, letters, degree, 8, seed), letters) for seed, (kind, letters, degree) in enumerate(
    [(kind, letters, degree) for kind in KINDS for letters in ("xy", "ab", "az") for degree in (3, 6, 10)])]


class PairTest(unittest.TestCase):
    def assert_short(self, value, letters):
        found = reduce_pair(value, letters)
        self.assertIsInstance(found, Poly)
        self.assertEqual(found.kind, value.kind)
        x, y = letters
        for cycles, word in found:
            self.assertIn(word, ("", x, y, x + y))
            self.assertTrue(all(cycle in (x, y, x + x, x + y, y + y) for cycle in cycles))
        for seed in (1, 2):
            matrices = some_matrices(letters, 2, seed)
            self.assertEqual(poly_value(found, 2, matrices), poly_value(value, 2, matrices))
        self.assertEqual(reduce_pair(found, letters), found)
        return found

    def test_example(self):
        self.assertEqual(show_poly(reduce_pair(read_poly("number | 1 (xxy)"), "xy")),
                         "number | -1/2 (x)(x)(y) | 1 (x)(xy) | 1/2 (xx)(y)")

    def test_by_hand(self):
        self.assertEqual(show_poly(reduce_pair(read_poly("matrix | 2 - yx"), "xy")),
                         "matrix | -2 - xy | 2 (x) y | -2 (x)(y) - | 2 (xy) - | 2 (y) x")
        self.assertEqual(show_poly(reduce_pair(read_poly("matrix | 1 - xx"), "xy")),
                         "matrix | 1 (x) x | -1/2 (x)(x) - | 1/2 (xx) -")
        self.assertEqual(show_poly(reduce_pair(read_poly("matrix | 1 - yy"), "xy")),
                         "matrix | 1 (y) y | -1/2 (y)(y) - | 1/2 (yy) -")
        self.assertEqual(show_poly(reduce_pair(read_poly("matrix | 1 - bab"), "ab")),
                         "matrix | -1/2 (a)(b)(b) - | 1/2 (a)(bb) - | 1 (ab) b | 1/2 (b)(b) a | -1/2 (bb) a")

    def test_all_words(self):
        for length in range(6):
            for number in range(2 ** length):
                word = "".join("ab"[number >> k & 1] for k in range(length))
                self.assert_short(poly("matrix", ("1", [], word)), "ab")
                if word:
                    self.assert_short(poly("number", ("1", [word], "")), "ab")

    def test_drawn(self):
        for value, letters in DRAWN:
            self.assert_short(value, letters)

    def test_short_polynomials_stay(self):
        for value in (poly("number"), poly("matrix"), poly("number", ("1/2", ["x", "xx", "xy", "y", "yy"], "")),
                      poly("matrix", ("1", ["x", "xx", "xy", "xy"], "xy"), ("2", [], "x"), ("3", ["yy", "y"], "y"),
                           ("4", ["yy", "xx"], ""), ("-5", [], ""))):
            self.assertEqual(reduce_pair(value, "xy"), value)

    def test_one_letter_or_none(self):
        for letters, letter in (("xy", "x"), ("xy", "y"), ("am", "m")):
            for kind in KINDS:
                value = drawn_poly(kind, letter, 7, 8, 4)
                # With one letter, the polynomials that are short for the pair are those that are short for the size.
                self.assertEqual(self.assert_short(value, letters), reduce_one(2, value))
        for kind in KINDS:
            for value in (poly(kind), poly(kind, ("-2/3", [], ""))):
                self.assertEqual(reduce_pair(value, "xy"), value)
                self.assertEqual(reduce_pair(value, "xy").kind, kind)

    def test_equal_exactly_if_alike(self):
        zeros = (law("matrix", "x", "y"), law("matrix", "xy", "x"), law("number", "x", "y", "xy"),
                 law("number", "xyy", "yx", "x"), law("matrix", "x", "y") * law("matrix", "y", "yx"))
        for zero in zeros:
            self.assertEqual(reduce_pair(zero, "xy"), poly(zero.kind))
            for value, letters in DRAWN:
                if letters == "xy" and value.kind == zero.kind:
                    self.assertEqual(reduce_pair(value + zero, "xy"), reduce_pair(value, "xy"))
                    other = value + poly(zero.kind, ("1", ["x", "y"], ""))
                    self.assertNotEqual(reduce_pair(other, "xy"), reduce_pair(value, "xy"))
        for value, letters in DRAWN:
            if value.degree < 6:
                found = reduce_pair(value, letters)
                self.assertTrue(is_zero(2, value - found))
                self.assertEqual(len(found) == 0, is_zero_somewhere(value, 2))

    def test_the_square_of_the_commutator(self):
        bracket = poly("matrix", ("1", [], "xy"), ("-1", [], "yx"))
        found = reduce_pair(bracket * bracket, "xy")
        self.assertTrue(all(word == "" for _, word in found))
        half = (bracket * bracket).traced(2).scaled(Ratio(1, 2))
        self.assertEqual(found, reduce_pair(half, "xy") * poly("matrix", ("1", [], "")))

    def test_long_words(self):
        found = self.assert_short(poly("matrix", ("1", [], "xyxxyyxyxxyxyyyxxyxy")), "xy")
        self.assertEqual(found.degree, 20)
        self.assert_short(poly("number", ("1", ["xyxxyyxyxxyxyyyxxyxx"], ""), ("1/2", ["xyxyxyxyxx"] * 2, "")), "xy")

    def test_errors(self):
        value = poly("number", ("1", ["xy"], ""))
        for letters in ("", "x", "xyz", "yx", "xx", "yy", "xY", "Xy", "AB", "x1", "1x", " y", "x ", "xyx", "x{", "`x"):
            for other in (value, poly("number"), poly("matrix", ("1", [], ""))):
                with self.assertRaises(InvalidPolynomial, msg=letters):
                    reduce_pair(other, letters)
        for other in (value + poly("number", ("1", ["z"], "")), poly("matrix", ("1", ["x"], "a")),
                      poly("matrix", ("1", [], "ab")), poly("number", ("1", ["z"], ""))):
            with self.assertRaises(InvalidPolynomial):
                reduce_pair(other, "xy")
        for letters in ("ax", "az", "xz", "yz"):
            with self.assertRaises(InvalidPolynomial):
                reduce_pair(value, letters)


if __name__ == "__main__":
    unittest.main()
