import unittest

from helpers import KINDS, NO_SIZES, SIZES, matrix_of, plain, poly, poly_value, some_matrices, table

from tablelaws.errors import WrongKind, WrongSize
from tablelaws.evaluating import value_at
from tablelaws.matrices import Matrix
from tablelaws.polys import Poly
from tablelaws.replacing import renamed, reversed_poly, substitute

NUMBER = poly("number", ("1", ["xxy", "y"], ""), ("-1/2", ["xy"], ""), ("3", [], ""), ("2", ["x", "x"], ""))
MATRIX = poly("matrix", ("1", ["xy"], "yx"), ("-1/2", [], "xyy"), ("3", [], ""), ("2", ["x"], "x"), ("1", ["z"], ""))
SUM = poly("matrix", ("1", [], "x"), ("2", [], "y"))
MIXED = poly("matrix", ("1", ["y"], "x"), ("-1/3", [], "yx"), ("5", [], ""))
EMPTY = poly("matrix")
SCALAR = poly("matrix", ("-2", [], ""))
TRACE = poly("matrix", ("1", ["x"], ""))


class SubstituteTest(unittest.TestCase):
    def test_by_hand(self):
        found = substitute(poly("matrix", ("2", ["x"], "xz")), {"x": poly("matrix", ("1", [], "y"), ("1", [], ""))}, 3)
        self.assertEqual(found, poly("matrix", ("2", ["y"], "yz"), ("2", ["y"], "z"), ("6", [], "yz"), ("6", [], "z")))
        found = substitute(poly("number", ("1", ["xy"], "")), {"x": SUM}, 2)
        self.assertEqual(found, poly("number", ("1", ["xy"], ""), ("2", ["yy"], "")))

    def test_the_order_of_a_product(self):
        replacements = {"x": poly("matrix", ("1", [], "ab")), "y": poly("matrix", ("1", [], "cd"))}
        self.assertEqual(substitute(poly("matrix", ("1", [], "yx")), replacements, 2),
                         poly("matrix", ("1", [], "cdab")))
        self.assertEqual(substitute(poly("number", ("1", ["yxx"], "")), replacements, 2),
                         poly("number", ("1", ["ababcd"], "")))

    def test_letters_that_occur_in_replacements(self):
        swap = {"x": Poly.letter("y"), "y": Poly.letter("x")}
        for size in SIZES:
            self.assertEqual(substitute(poly("matrix", ("1", ["xxy"], "xy")), swap, size),
                             poly("matrix", ("1", ["yyx"], "yx")))
            chain = {"x": Poly.letter("y"), "y": Poly.letter("z"), "z": poly("matrix", ("1", [], "xx"))}
            self.assertEqual(substitute(poly("matrix", ("1", ["z"], "xyz")), chain, size),
                             poly("matrix", ("1", ["xx"], "yzxx")))
            self.assertEqual(substitute(poly("matrix", ("1", [], "xx")), {"x": SUM}, size), SUM * SUM)

    def test_letters_that_stay(self):
        found = substitute(poly("matrix", ("1", ["yz"], "zxy")), {"x": poly("matrix", ("1", [], "ww"))}, 2)
        self.assertEqual(found, poly("matrix", ("1", ["yz"], "zwwy")))
        for value in (NUMBER, MATRIX):
            for size in SIZES:
                self.assertEqual(substitute(value, {}, size), value)
                self.assertEqual(substitute(value, {"a": SUM, "b": EMPTY}, size), value)

    def test_replacements_without_terms(self):
        for size in SIZES:
            self.assertEqual(substitute(MATRIX, {"x": EMPTY}, size), poly("matrix", ("3", [], ""), ("1", ["z"], "")))
            self.assertEqual(substitute(NUMBER, {"y": EMPTY}, size),
                             poly("number", ("3", [], ""), ("2", ["x", "x"], "")))
            self.assertEqual(substitute(NUMBER, {"x": EMPTY, "y": EMPTY}, size), poly("number", ("3", [], "")))
            self.assertEqual(substitute(poly("matrix", ("1", [], "x")), {"x": EMPTY}, size), EMPTY)

    def test_replacements_without_letters(self):
        for size in SIZES:
            self.assertEqual(substitute(poly("number", ("1", ["xx", "x"], "")), {"x": SCALAR}, size),
                             poly("number", (str(-8 * size * size), [], "")))
            self.assertEqual(substitute(poly("matrix", ("1", ["xx"], "xy")), {"x": SCALAR}, size),
                             poly("matrix", (str(-8 * size), [], "y")))
            self.assertEqual(substitute(poly("number", ("1", ["xy"], "")), {"x": SCALAR}, size),
                             poly("number", ("-2", ["y"], "")))
            self.assertEqual(substitute(poly("matrix", ("1", [], "x")), {"x": SCALAR}, size), SCALAR)
            self.assertEqual(substitute(poly("number", ("1", ["x"], "")), {"x": TRACE}, size),
                             poly("number", (str(size), ["x"], "")))

    def test_no_terms(self):
        for kind in KINDS:
            for size in SIZES:
                self.assertEqual(substitute(poly(kind), {"x": SUM}, size), poly(kind))

    def test_kinds(self):
        for size in SIZES:
            for value in (NUMBER, MATRIX):
                for replacement in (SUM, MIXED, EMPTY, SCALAR, TRACE):
                    self.assertEqual(substitute(value, {"x": replacement}, size).kind, value.kind)

    def test_terms_that_cancel(self):
        value = poly("matrix", ("1", [], "xy"), ("-1", [], "yx"))
        self.assertEqual(substitute(value, {"y": Poly.letter("x")}, 2), EMPTY)

    def test_values(self):
        for size in SIZES:
            matrices = some_matrices("xyz", size, seed=size)
            for first in (SUM, MIXED, EMPTY, SCALAR, TRACE):
                for second in (MIXED, TRACE):
                    replacements = {"x": first, "y": second, "q": MIXED}
                    values = {letter: value_at(f, size, matrices) for letter, f in replacements.items()}
                    values["z"] = matrices["z"]
                    for value in (NUMBER, MATRIX):
                        found = substitute(value, replacements, size)
                        self.assertEqual(poly_value(found, size, matrices), poly_value(value, size, values))

    def test_wrong_size(self):
        for size in NO_SIZES:
            for value in (NUMBER, MATRIX):
                for replacements in ({}, {"x": SUM}, {"x": NUMBER}, {"q": NUMBER}):
                    with self.assertRaises(WrongSize):
                        substitute(value, replacements, size)

    def test_wrong_kind(self):
        for size in SIZES:
            for value in (NUMBER, MATRIX, EMPTY):
                for replacements in ({"x": NUMBER}, {"q": NUMBER}, {"x": poly("number")}, {"x": SUM, "q": NUMBER},
                                     {"q": poly("number", ("1", [], "")), "y": SUM}):
                    with self.assertRaises(WrongKind):
                        substitute(value, replacements, size)

    def test_arguments_stay(self):
        replacements = {"x": SUM, "q": MIXED}
        substitute(MATRIX, replacements, 2)
        self.assertEqual(list(replacements), ["x", "q"])
        self.assertEqual(SUM, poly("matrix", ("1", [], "x"), ("2", [], "y")))


class RenamedTest(unittest.TestCase):
    def test_exchanged_letters(self):
        self.assertEqual(renamed(poly("matrix", ("1", [], "xy"), ("-2", [], "yx")), x="y", y="x"),
                         poly("matrix", ("-2", [], "xy"), ("1", [], "yx")))
        self.assertEqual(renamed(poly("matrix", ("1", ["xxy"], "xy")), x="y", y="x"),
                         poly("matrix", ("1", ["xyy"], "yx")))

    def test_cyclic_words_are_rotated_and_ordered(self):
        found = renamed(poly("number", ("1", ["ab", "cd"], "")), a="z", c="b")
        self.assertEqual(found.terms, ((("bd", "bz"), ""),))

    def test_two_letters_renamed_to_one(self):
        self.assertEqual(renamed(poly("matrix", ("1", [], "xy"), ("3", [], "yx"), ("1", ["x"], "y")), x="z", y="z"),
                         poly("matrix", ("4", [], "zz"), ("1", ["z"], "z")))
        self.assertEqual(renamed(poly("number", ("1", ["xy"], ""), ("-1", ["xx"], "")), y="x"), poly("number"))
        self.assertEqual(renamed(poly("matrix", ("1", [], "x"), ("2", [], "y")), x="y"), poly("matrix", ("3", [], "y")))

    def test_letters_that_stay(self):
        self.assertEqual(renamed(poly("matrix", ("1", ["xyz"], "zx")), x="a"), poly("matrix", ("1", ["ayz"], "za")))
        self.assertEqual(renamed(MATRIX), MATRIX)

    def test_keywords_that_do_not_occur(self):
        self.assertEqual(renamed(MATRIX, a="b", q="x"), MATRIX)
        self.assertEqual(renamed(NUMBER, z="x"), NUMBER)
        self.assertEqual(renamed(poly("number"), x="y"), poly("number"))

    def test_a_letter_renamed_to_itself(self):
        self.assertEqual(renamed(MATRIX, x="x"), MATRIX)

    def test_all_at_once(self):
        self.assertEqual(renamed(poly("matrix", ("1", [], "abc")), a="b", b="c", c="a"),
                         poly("matrix", ("1", [], "bca")))

    def test_like_substitute(self):
        for names in ({"x": "y", "y": "x"}, {"x": "z", "y": "z"}, {"z": "a"}, {"x": "y"}, {}, {"q": "x"}):
            replacements = {old: Poly.letter(new) for old, new in names.items()}
            for value in (NUMBER, MATRIX, EMPTY, poly("number")):
                found = renamed(value, **names)
                self.assertEqual(found.kind, value.kind)
                for size in SIZES:
                    self.assertEqual(found, substitute(value, replacements, size))


class ReversedTest(unittest.TestCase):
    def test_words_and_cyclic_words(self):
        value = poly("matrix", ("2", ["abcd", "xy"], "xyz"), ("-1/3", [], "xxy"), ("4", [], ""))
        self.assertEqual(reversed_poly(value),
                         poly("matrix", ("2", ["dcba", "xy"], "zyx"), ("-1/3", [], "yxx"), ("4", [], "")))
        found = reversed_poly(poly("number", ("5", ["abc"], ""), ("1", ["ab"], "")))
        self.assertEqual(found.terms, ((("ab",), ""), (("acb",), "")))
        self.assertEqual([str(found[key]) for key in found], ["1", "5"])

    def test_no_terms(self):
        for kind in KINDS:
            self.assertEqual(reversed_poly(poly(kind)), poly(kind))

    def test_twice(self):
        for value in (NUMBER, MATRIX):
            self.assertEqual(reversed_poly(reversed_poly(value)), value)
            self.assertEqual(reversed_poly(value).kind, value.kind)

    def test_values_at_transposed_matrices(self):
        values = (NUMBER, MATRIX, poly("number", ("1", ["xyz"], ""), ("2", ["xzy"], ""), ("1", ["xxyz"], "")),
                  poly("matrix", ("1", ["xyz"], "xxy"), ("2", [], "zxy")))
        for size in SIZES:
            matrices = some_matrices("xyz", size, seed=3)
            transposed = {letter: matrix.transposed() for letter, matrix in matrices.items()}
            for value in values:
                before, after = value_at(value, size, matrices), value_at(reversed_poly(value), size, transposed)
                self.assertEqual(plain(after), plain(before.transposed() if value.kind == "matrix" else before))

    def test_value_by_hand(self):
        matrices = {"x": matrix_of("0 0; 1 0"), "y": Matrix([[1, 3], [2, 4]])}
        self.assertEqual(table(value_at(reversed_poly(poly("matrix", ("1", [], "xy"))), 2, matrices)), [[3, 0], [4, 0]])


if __name__ == "__main__":
    unittest.main()
