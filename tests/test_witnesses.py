import unittest

from helpers import (KINDS, NO_SIZES, SIZES, drawn_poly, drawn_polys, is_zero_somewhere, law, poly, poly_value, table,
                     zero_polys)

from tablelaws.certificates import certify
from tablelaws.errors import TooLarge, WrongSize
from tablelaws.matrices import Matrix
from tablelaws.polys import Poly
from tablelaws.ratios import Ratio
from tablelaws.witnesses import witness_for

SEVEN = (poly("number", ("1", ["xyzxyzx"], "")), poly("number", ("1", ["x"], ""), ("2", list("abcdefa"), "")),
         poly("matrix", ("1", [], "xyxyxy")), poly("matrix", ("1", [], ""), ("1", list("xxxxxx"), "")))
# Polynomials of which many small matrices are zeros: products of x - t for t from 0 on, as polynomials of tr(x).
STEEP = []
for count in range(1, 7):
    product = Poly.constant("number", Ratio(1))
    for t in range(count):
        product = product * poly("number", ("1", ["x"], ""), (str(-t), [], ""))
    STEEP.append(product)
STEEP.append(poly("number", ("1", ["x"], ""), ("-1", ["y"], "")))
STEEP.append(poly("number", ("1", list("xxx"), ""), ("-1", list("xyz"), "")))
STEEP.append(STEEP[2] * STEEP[2])
# The numbers by which the matrices are multiplied depend on each other.
STEEP.append(poly("number", ("1", list("xxy"), ""), ("-1", list("xyy"), "")))
STEEP.append(poly("number", ("2", list("xxyz"), ""), ("-3", list("xyyz"), ""), ("1", list("xyzz"), "")))
STEEP.append(poly("matrix", ("1", ["x"], ""), ("-1", ["y"], "")) * poly("matrix", ("1", ["x"], ""), ("-2", ["y"], ""))
             * poly("matrix", ("1", ["x"], ""), ("-3", ["y"], "")))
STEEP.append(poly("matrix", ("1", [], "xy"), ("-1", [], "yx"), ("1", [], "x"), ("-1", ["y"], "x")))


class WitnessTest(unittest.TestCase):
    def assert_witness(self, size, value):
        found = witness_for(size, value)
        self.assertIsInstance(found, dict)
        self.assertEqual("".join(sorted(found)), value.used_letters())
        for matrix in found.values():
            self.assertIsInstance(matrix, Matrix)
            self.assertEqual(matrix.size, size)
            for entry in sum(table(matrix), []):
                self.assertEqual(entry.denominator, 1)
                self.assertTrue(0 <= entry <= 36, entry)
        result = poly_value(value, size, found)
        entries = [result] if value.kind == "number" else sum(result, [])
        self.assertTrue(any(entries))
        self.assertIsNone(certify(size, value))

    def test_polynomials_that_are_zero(self):
        for size in SIZES:
            for value in zero_polys(size):
                for smaller in range(1, size + 1):
                    self.assertIsNone(witness_for(smaller, value))

    def test_polynomials_that_are_zero_at_a_smaller_size_only(self):
        for size in (1, 2):
            for value in zero_polys(size):
                if len(value) > 0:
                    self.assert_witness(size + 1, value)
                    self.assert_witness(3, value)

    def test_drawn(self):
        for size in SIZES:
            for value in drawn_polys():
                if not is_zero_somewhere(value, size):
                    self.assert_witness(size, value)

    def test_either_a_certificate_or_a_witness(self):
        for size in SIZES:
            for value in drawn_polys(3) + zero_polys(1) + zero_polys(2) + zero_polys(3):
                self.assertNotEqual(certify(size, value) is None, witness_for(size, value) is None)

    def test_polynomials_with_many_zeros(self):
        for size in SIZES:
            for value in STEEP:
                if not is_zero_somewhere(value, size):
                    self.assert_witness(size, value)

    def test_parts_that_are_zero(self):
        """Only one part is not zero, or the parts cancel at many matrices."""
        for size in SIZES:
            for zero in zero_polys(size):
                for more in (poly(zero.kind, ("1", [], "")), poly(zero.kind, ("-2", ["zzz"], ""))):
                    self.assert_witness(size, zero + more)

    def test_six_places(self):
        self.assert_witness(1, poly("number", ("1/7", ["xxxxxx"], "")))
        self.assert_witness(3, poly("number", ("1", ["xyzxzy"], ""), ("-1", ["xyzyzx"], ""), ("1", ["x"], "")))
        self.assert_witness(2, drawn_poly("number", "abcdef", 6, 20, 3))
        self.assert_witness(3, drawn_poly("matrix", "abcde", 5, 20, 4))
        self.assert_witness(2, poly("matrix", ("1", [], "xxxxx"), ("-1", ["x"], "xxxx")))
        # It is zero at the sizes 1 and 2, and what is left at size 3 is hard to see.
        self.assert_witness(3, law("number", "ab", "cd", "ef"))
        self.assert_witness(3, law("matrix", "xy", "yx") * poly("matrix", ("1", [], "x")))

    def test_constants(self):
        for size in SIZES:
            for kind in KINDS:
                self.assertEqual(witness_for(size, poly(kind, ("-3/4", [], ""))), {})
                self.assertIsNone(witness_for(size, poly(kind)))

    def test_letters_that_count_for_nothing(self):
        value = law("number", "x", "y", "y") + poly("number", ("1", ["z"], ""))
        for size in (1, 2):
            self.assert_witness(size, value)
            self.assertEqual(sorted(witness_for(size, value)), ["x", "y", "z"])

    def test_example(self):
        self.assertEqual(witness_for(2, Poly.constant("number", Ratio(3))), {})

    def test_results_are_new(self):
        value = poly("number", ("1", ["x"], ""), ("2", [], ""))
        witness_for(2, value).clear()
        self.assert_witness(2, value)
        self.assertEqual(value, poly("number", ("1", ["x"], ""), ("2", [], "")))

    def test_errors(self):
        for value in SEVEN:
            for size in SIZES:
                with self.assertRaises(TooLarge):
                    witness_for(size, value)
        for size in NO_SIZES:
            for value in SEVEN + (poly("number"), poly("matrix", ("1", [], "x"))):
                with self.assertRaises(WrongSize):
                    witness_for(size, value)


if __name__ == "__main__":
    unittest.main()
