import unittest

from helpers import poly, ratio

from tablelaws.errors import InvalidPolynomial
from tablelaws.notation import read_poly, show_poly
from tablelaws.polys import Poly
from tablelaws.ratios import Ratio
from tablelaws.replacing import renamed

WRITTEN = (
    ("matrix | 3 - - | -1/2 (x)(xy) yx", poly("matrix", ("3", [], ""), ("-1/2", ["yx", "x"], "yx"))),
    ("number | 1 (x)(x)", poly("number", ("1", ["x", "x"], ""))),
    ("number", poly("number")),
    ("matrix", poly("matrix")),
    ("number | 7 -", poly("number", ("7", [], ""))),
    ("matrix | -7/2 - -", poly("matrix", ("-7/2", [], ""))),
    ("matrix | 1 (x) -", poly("matrix", ("1", ["x"], ""))),
    ("matrix | 1 - - | 1 - x | 1 - xy | -1 - yx | 5 (x) y | 1/3 (x)(x)(yz) -",
     poly("matrix", ("1", [], "xy"), ("-1", [], "yx"), ("1", [], ""), ("1", [], "x"), ("5", ["x"], "y"),
          ("1/3", ["zy", "x", "x"], ""))),
    ("number | -10 (a)(b) | 2/30001 (ab) | 4 (abz)(az)",
     poly("number", ("2/30001", ["ab"], ""), ("-10", ["a", "b"], ""), ("4", ["za", "bza"], ""))),
)
# Each of them breaks the form at one place.
INVALID = (
    "", "number | 0 (x)", "number | 2/4 (x)", "number | 1 (yx)", "number | 1 (xy)(x)", "number | 1 - x", "number | 1",
    "matrix | 1 -", "matrix | 1 - y | 1 - x", "matrix | 1 - x | 1 - x",
    # The kind.
    " ", "|", " | ", "Number", "MATRIX", "numbers", "matri", "poly | 1 -", " | 1 - -", "1 - x", "number matrix",
    "number | 1 - -", "matrix | 1 - x -", "number | 1 (x) -",
    # Capital letters, newlines and other signs.
    "matrix | 1 - X", "number | 1 (X)", "Matrix | 1 - x", "matrix | 1 - x\n", "\nmatrix | 1 - x", "matrix\n| 1 - x",
    "matrix | 1\n- x", "number\n", "matrix | 1 (x\n) y", "number | 1 (x1)", "matrix | 1 - x1", "matrix | 1 - x_",
    "matrix | 1 (x)- y", "matrix | 1 -(x) y", "matrix | 1 - x-", "matrix | 1 - (x)", "matrix | x - 1", "matrix | 1 x y",
    "matrix | 1 - \u00e9",
    # Spaces and bars at another place.
    " number", "number ", "number |", "number | ", "number  | 1 (x)", "number |  1 (x)", "number | 1  (x)",
    "number | 1 (x) ", "number | 1 (x) | ", "number | 1 (x) |", "number| 1 (x)", "number |1 (x)", "number | 1 (x) (x)",
    "number | 1 ( x)", "number | 1 (x y)", "matrix | 1 - x  | 1 - y", "matrix | 1 - x || 1 - y",
    "matrix | 1 - x| 1 - y",
    "matrix | 1 - x | | 1 - y", "matrix | - x", "matrix 1 - x", "number | 1 (x)|2 (y)", "matrix | 1 - x | matrix",
    "number 1 (x)", "matrix | 1  x", "matrix |  - x", "number | 1 ",
    # Brackets.
    "number | 1 ()", "number | 1 x", "number | 1 (x", "number | 1 x)", "number | 1 ((x))", "number | 1 (x)(",
    "number | 1 (",
    "number | 1 )", "number | 1 )(", "number | 1 (x)()", "number | 1 ()(x)", "number | 1 (x))(y)", "number | 1 [x]",
    "number | 1 (x,y)", "number | 1 (x)-", "number | 1 -(x)", "number | 1 --", "matrix | 1 - --", "matrix | 1 () x",
    "number | 1 (-)", "number | 1 (x)y(z)", "number | 1 (x)x", "number | 1 x(x)",
    # Coefficients.
    "number | (x)", "number | +1 (x)", "number | -0 (x)", "number | 01 (x)", "number | 1/1 (x)", "number | 3/1 (x)",
    "number | 1/0 (x)", "number | 0/1 (x)", "number | 1/-2 (x)", "number | 1/ (x)", "number | /2 (x)", "number | - (x)",
    "number | -- (x)", "number | 1.5 (x)", "number | --1 (x)", "number | x (x)", "number | 1_0 (x)", "number | 1e3 (x)",
    "matrix | 0 - -", "number | 0 -", "matrix | 1/2/3 - x", "matrix | 1 - x | 0 - y",
    # The order of cyclic words and of terms.
    "number | 1 (xyx)", "number | 1 (y)(x)", "number | 1 (yz)(xx)", "number | 1 (xy)(xx)", "number | 1 (x)(xy)(x)",
    "matrix | 1 (x) - | 1 - x", "number | 1 (y) | 1 (x)", "number | 1 (x) | 1 -", "number | 1 (x) | 1 (x)",
    "number | 1 (x) | -1 (x)", "matrix | 1 - yx | 1 - xy", "number | 2 (x) | 1 (x)(x) | 1 (x)",
)


class ShowTest(unittest.TestCase):
    def test_written_forms(self):
        for text, value in WRITTEN:
            self.assertEqual(show_poly(value), text)

    def test_one_letter_of_each_kind(self):
        self.assertEqual(show_poly(Poly.letter("x")), "matrix | 1 - x")
        self.assertEqual(show_poly(Poly.letter("x").traced(2)), "number | 1 (x)")

    def test_great_coefficients(self):
        self.assertEqual(show_poly(Poly.constant("number", Ratio(10 ** 61))), "number | 1" + "0" * 61 + " -")


class ReadTest(unittest.TestCase):
    def assert_invalid(self, text):
        with self.assertRaises(InvalidPolynomial, msg=repr(text)):
            read_poly(text)

    def test_written_forms_are_read_back(self):
        for text, value in WRITTEN:
            found = read_poly(text)
            self.assertEqual(found, value)
            self.assertEqual(found.kind, value.kind)
            self.assertEqual(show_poly(found), text)

    def test_shown_polynomials_are_read_back(self):
        x, y = Poly.letter("x"), Poly.letter("y")
        bracket = x * y - y * x
        for value in (bracket, bracket.power(3), bracket.power(4).traced(3), (x + y).power(5) * x.traced(2),
                      (x + Poly.constant("matrix", ratio("-3/7"))).power(4), bracket.traced(1), bracket - bracket):
            self.assertEqual(read_poly(show_poly(value)), value)

    def test_other_texts(self):
        for text in INVALID:
            self.assert_invalid(text)

    def test_eight_letters_and_degree_20(self):
        for text in ("matrix | 1 (abcdefgh) hgfedcba", "matrix | -1 (a)(bc) " + "z" * 17,
                     "number | 1 (" + "x" * 20 + ")", "number | 1 " + "(x)" * 20):
            self.assertEqual(show_poly(read_poly(text)), text)

    def test_800_terms(self):
        words = sorted(a + b + c + d for a in "abcdef" for b in "abcdef" for c in "abcdef" for d in "abcdef")[:800]
        text = "matrix" + "".join(f" | {number} - {word}" for number, word in enumerate(words, start=1))
        self.assertEqual(len(read_poly(text)), 800)
        self.assertEqual(show_poly(read_poly(text)), text)

    def test_60_and_61_digits(self):
        long, longer = "1" + "0" * 59, "1" + "0" * 60
        for text in (long, "-" + long, "1/" + long, "-1/" + long, "-7/" + long, long + "/7", "-" + long + "/7",
                     "9" * 60 + "/" + long):
            self.assertEqual(show_poly(read_poly(f"number | {text} (x)")), f"number | {text} (x)")
            self.assertEqual(show_poly(read_poly(f"matrix | {text} - -")), f"matrix | {text} - -")
        for text in (longer, "-" + longer, "1/" + longer, "-1/" + longer, longer + "/7", "-" + longer + "/7",
                     longer + "/" + "9" * 60, long + "/" + "1" + "0" * 59 + "1", "9" * 5000, "1/" + "9" * 5000):
            self.assert_invalid(f"number | {text} (x)")
            self.assert_invalid(f"matrix | {text} - -")
            self.assert_invalid(f"matrix | 1 - - | {text} - x")

    def test_example_of_the_interface(self):
        self.assertEqual(show_poly(renamed(read_poly("matrix | 1 - xy | -2 - yx"), x="y", y="x")),
                         "matrix | -2 - xy | 1 - yx")


if __name__ == "__main__":
    unittest.main()
