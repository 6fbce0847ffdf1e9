import unittest

from helpers import (KINDS, NO_SIZES, SIZES, drawn_poly, drawn_polys, is_zero_somewhere, law, places_in, poly,
                     some_matrices, poly_value, zero_polys)

from tablelaws.certificates import certify
from tablelaws.errors import TooLarge, WrongSize
from tablelaws.linearizing import linearize, restitute
from tablelaws.normalforms import is_zero, normal_form
from tablelaws.parts import contents_in
from tablelaws.polys import Poly
from tablelaws.ratios import Ratio
from tablelaws.reducing import reduce_sum

# The last ones have terms with 6 places.
DRAWN = drawn_polys() + [drawn_poly("number", "xyz", 6, 8, 11), drawn_poly("matrix", "xy", 5, 8, 12)]
SIX = (poly("number", ("1", ["xyzxyz"], "")), poly("number", ("2", list("abcdef"), "")),
       poly("matrix", ("1", [], "xyxyx")), poly("matrix", ("1", list("xxxxx"), "")))
SEVEN = (poly("number", ("1", ["xyzxyzx"], "")), poly("number", ("1", ["x"], ""), ("2", list("abcdefa"), "")),
         poly("matrix", ("1", [], "xyxyxy")), poly("matrix", ("1", [], ""), ("1", list("xxxxxx"), "")))


class NormalFormTest(unittest.TestCase):
    def test_by_hand(self):
        # Its permutation is (3, 2, 1), the only one of 3 places that is not good for size 2.
        term = poly("matrix", ("2", ["y"], "x"))
        self.assertEqual(normal_form(1, term), poly("matrix", ("2", ["x", "y"], "")))
        self.assertEqual(normal_form(2, term),
                         poly("matrix", ("2", ["x", "y"], ""), ("-2", ["x"], "y"), ("-2", ["xy"], ""),
                              ("2", [], "xy"), ("2", [], "yx")))
        self.assertEqual(normal_form(3, term), term)
        square = poly("number", ("4", ["xx"], ""), ("1", ["x"], ""), ("-2", [], ""))
        self.assertEqual(normal_form(1, square), poly("number", ("4", ["x", "x"], ""), ("1", ["x"], ""),
                                                      ("-2", [], "")))
        self.assertEqual(normal_form(2, square), square)

    def test_content_by_content(self):
        for size in SIZES:
            for value in DRAWN:
                expected = poly(value.kind)
                for content in contents_in(value):
                    good = reduce_sum(size, linearize(value, content))[0]
                    expected = expected + restitute(good, content, value.kind)
                found = normal_form(size, value)
                self.assertIsInstance(found, Poly)
                self.assertEqual(found, expected)
                self.assertEqual(found.kind, value.kind)

    def test_without_terms(self):
        for size in SIZES:
            for kind in KINDS:
                found = normal_form(size, poly(kind))
                self.assertEqual((found.kind, found.terms), (kind, ()))
                self.assertIs(is_zero(size, poly(kind)), True)

    def test_it_is_alike(self):
        for size in SIZES:
            for value in DRAWN:
                found = normal_form(size, value)
                for seed in (4, 5):
                    matrices = some_matrices(value.used_letters(), size, seed)
                    self.assertEqual(poly_value(found, size, matrices), poly_value(value, size, matrices))
                self.assertIsNotNone(certify(size, value - found))

    def test_alike_exactly_if_the_normal_forms_are_equal(self):
        for size in SIZES:
            for k, zero in enumerate(zero_polys(size)):
                for value in DRAWN[k % 3::3]:
                    if value.kind == zero.kind:
                        self.assertEqual(normal_form(size, value + zero), normal_form(size, value))
                        other = value + zero + poly(value.kind, ("1/5", ["x"], ""))
                        self.assertNotEqual(normal_form(size, other), normal_form(size, value))

    def test_normal_form_of_a_normal_form_and_of_a_sum(self):
        for size in SIZES:
            for value in DRAWN:
                found = normal_form(size, value)
                self.assertEqual(normal_form(size, found), found)
                for other in DRAWN[size::4]:
                    if other.kind == value.kind:
                        self.assertEqual(normal_form(size, value + other), found + normal_form(size, other))

    def test_few_places(self):
        for size in SIZES:
            for value in DRAWN + list(SIX):
                short = [(key, value[key]) for key in value if places_in(key, value.kind) <= size]
                few = Poly(value.kind, [(key[0], key[1], part) for key, part in short])
                self.assertEqual(normal_form(size, few), few)
        value = poly("matrix", ("1", [], "yx"), ("2", ["yx"], ""), ("3", ["x"], "x"))
        self.assertEqual(normal_form(3, value), value)
        value = poly("number", ("1", ["zyx"], ""), ("2", ["xxx"], ""))
        self.assertEqual(normal_form(3, value), value)

    def test_size_1(self):
        for value in DRAWN + list(SIX):
            for cycles, word in normal_form(1, value):
                self.assertEqual(word, "")
                self.assertTrue(all(len(cycle) == 1 for cycle in cycles))

    def test_example(self):
        self.assertEqual(normal_form(1, Poly.letter("y") * Poly.letter("x")).terms, ((("x", "y"), ""),))

    def test_six_places(self):
        for size in SIZES:
            for value in SIX:
                self.assertIs(is_zero(size, value), False)
                self.assertIs(is_zero(size, value - normal_form(size, value)), True)
        self.assertIs(is_zero(3, law("matrix", "xy", "z", "xy")), True)
        self.assertIs(is_zero(3, law("number", "xy", "z", "yz", "x")), True)


class IsZeroTest(unittest.TestCase):
    def test_zero(self):
        for size in SIZES:
            for value in zero_polys(size):
                for smaller in range(1, size + 1):
                    self.assertIs(is_zero(smaller, value), True)
                    self.assertEqual(normal_form(smaller, value).terms, ())
                for greater in range(size + 1, 4):
                    self.assertIs(is_zero(greater, value), len(value) == 0)

    def test_drawn(self):
        for size in SIZES:
            for value in DRAWN:
                self.assertIs(is_zero(size, value), is_zero_somewhere(value, size))

    def test_zero_at_a_greater_size(self):
        for value in DRAWN + [part for size in SIZES for part in zero_polys(size)]:
            found = [is_zero(size, value) for size in SIZES]
            self.assertEqual(found, sorted(found, reverse=True))

    def test_example(self):
        x, y = Poly.letter("x"), Poly.letter("y")
        self.assertIs(is_zero(1, y * x - x * y), True)
        self.assertIs(is_zero(2, y * x - x * y), False)

    def test_the_standard_polynomial_of_4_letters(self):
        value = poly("matrix")
        for first, second, rest in (("ab", "cd", "1"), ("ac", "bd", "-1"), ("ad", "bc", "1"), ("bc", "ad", "1"),
                                    ("bd", "ac", "-1"), ("cd", "ab", "1")):
            pairs = [poly("matrix", ("1", [], a + b), ("-1", [], b + a)) for a, b in (first, second)]
            value = value + (pairs[0] * pairs[1]).scaled(Ratio(int(rest)))
        self.assertEqual(len(value), 24)
        self.assertEqual([is_zero(size, value) for size in SIZES], [True, True, False])


class ErrorTest(unittest.TestCase):
    def test_errors(self):
        for function in (normal_form, is_zero):
            for value in SEVEN:
                for size in SIZES:
                    with self.assertRaises(TooLarge):
                        function(size, value)
            for value in SEVEN + SIX + (poly("number"), poly("matrix")):
                for size in NO_SIZES:
                    with self.assertRaises(WrongSize):
                        function(size, value)


if __name__ == "__main__":
    unittest.main()
