import unittest
from fractions import Fraction

from helpers import (KINDS, NO_SIZES, SIZES, all_perms, drawn_poly, drawn_polys, fraction, has_decreasing,
                     is_zero_somewhere, poly, ratio, zero_polys)

from tablelaws.cells import linear_value, place_matrices
from tablelaws.errors import InvalidPermutation, TooLarge, WrongKind, WrongSize
from tablelaws.linearizing import linearize, places_of
from tablelaws.notation import read_poly
from tablelaws.parts import contents_in, part_of
from tablelaws.polys import Poly
from tablelaws.probes import Probe, probe_of, probes_of
from tablelaws.ratios import Ratio

EXAMPLE = Poly("number", [(["xy"], "", Ratio(5)), (["x", "y"], "", Ratio(7))])


def parts(probe):
    return (probe.size, probe.content, probe.kind, probe.columns, probe.rows)


def colours(perm):
    """For each place the greatest length of a decreasing subsequence that ends there, by trying all of them."""
    found = []
    for j in range(len(perm)):
        lengths = [n for n in range(1, j + 2) if any_decreasing(perm[:j + 1], n)]
        found.append(max(lengths))
    return tuple(found)


def any_decreasing(perm, length):
    """Whether a decreasing subsequence of this length ends at the last place."""
    shorter = [value for value in perm[:-1] if value > perm[-1]]
    return length == 1 or has_decreasing(tuple(shorter), length - 1)


def moved(perm, row):
    found = [0] * len(row)
    for j, value in enumerate(row):
        found[perm[j] - 1] = value
    return tuple(found)


def cell(permsum, columns, rows):
    return sum((fraction(permsum[perm]) for perm in permsum if moved(perm, columns) == rows), Fraction(0))


class ProbeTest(unittest.TestCase):
    def test_attributes(self):
        probe = Probe(2, "xy", "number", (1, 2), (2, 1))
        self.assertEqual(parts(probe), (2, "xy", "number", (1, 2), (2, 1)))
        self.assertEqual(parts(Probe(1, "", "matrix", (1,), (1,))), (1, "", "matrix", (1,), (1,)))

    def test_equal(self):
        probe = Probe(2, "xy", "number", (1, 2), (2, 1))
        self.assertTrue(probe == Probe(2, "xy", "number", (1, 2), (2, 1)))
        self.assertFalse(probe != Probe(2, "xy", "number", (1, 2), (2, 1)))
        others = [Probe(3, "xy", "number", (1, 2), (2, 1)), Probe(2, "xz", "number", (1, 2), (2, 1)),
                  Probe(2, "xy", "matrix", (1, 2), (2, 1)), Probe(2, "xy", "number", (1, 1), (2, 1)),
                  Probe(2, "xy", "number", (1, 2), (2, 2)), Probe(2, "xy", "number", (2, 1), (1, 2)),
                  None, 2, "xy", (2, "xy", "number", (1, 2), (2, 1)), EXAMPLE]
        for other in others:
            self.assertFalse(probe == other)
            self.assertTrue(probe != other)
            self.assertFalse(other == probe)
            self.assertTrue(other != probe)

    def test_values(self):
        self.assertEqual(str(Probe(2, "xy", "number", (1, 2), (2, 1))(EXAMPLE)), "5")
        self.assertEqual(str(Probe(2, "xy", "number", (1, 2), (1, 2))(EXAMPLE)), "7")
        self.assertEqual(str(Probe(2, "xy", "number", (1, 1), (1, 1))(EXAMPLE)), "12")
        self.assertEqual(str(Probe(2, "xy", "number", (1, 1), (1, 2))(EXAMPLE)), "0")
        self.assertEqual(str(Probe(1, "", "matrix", (1,), (1,))(poly("matrix", ("-2/3", [], "")))), "-2/3")
        self.assertEqual(str(Probe(1, "", "number", (), ())(poly("number", ("4", [], ""), ("1", ["x"], "")))), "4")
        # The two ways of the term (x)(x) make the identity twice.
        self.assertEqual(str(Probe(2, "xx", "number", (1, 2), (1, 2))(poly("number", ("3", ["x", "x"], "")))), "6")
        self.assertEqual(str(Probe(2, "x", "matrix", (1, 2), (2, 1))(poly("matrix", ("3", [], "x")))), "3")

    def test_values_are_cells(self):
        for value in drawn_polys():
            for content in contents_in(value)[:3]:
                for size in SIZES:
                    total = linearize(value, content)
                    for probe in probes_of(size, content, value.kind):
                        found = probe(value)
                        self.assertIsInstance(found, Ratio)
                        self.assertEqual(fraction(found), cell(total, probe.columns, probe.rows))
                        self.assertEqual(found, probe(part_of(value, content)))

    def test_values_by_matrices(self):
        for value, size in ((drawn_poly("number", "xy", 3, 8, 5), 2), (drawn_poly("matrix", "xy", 3, 8, 6), 2),
                            (poly("matrix", ("1", [], "yx"), ("2", ["x"], "y")), 3)):
            for content in contents_in(value):
                for probe in probes_of(size, content, value.kind):
                    found = linear_value(value, content, size, place_matrices(size, probe.columns, probe.rows))
                    if value.kind == "matrix":
                        found = found[probe.columns[-1], probe.rows[-1]]
                    self.assertEqual(probe(value), found)

    def test_contents_that_the_polynomial_does_not_have(self):
        for content in ("x", "y", "xx", "xyy", "", "ab"):
            for probe in probes_of(2, content, "number"):
                self.assertEqual(probe(EXAMPLE), Ratio(0))
                self.assertEqual(probe(poly("number")), Ratio(0))
        # Long terms of other contents do not count.
        self.assertEqual(str(Probe(2, "xy", "number", (1, 2), (2, 1))(EXAMPLE + poly("number", ("1", ["x" * 9], "")))),
                         "5")

    def test_wrong_kind(self):
        for value in (poly("matrix"), poly("matrix", ("1", [], "xy"))):
            with self.assertRaises(WrongKind):
                Probe(2, "xy", "number", (1, 2), (2, 1))(value)
        for value in (poly("number"), EXAMPLE):
            with self.assertRaises(WrongKind):
                Probe(2, "xy", "matrix", (1, 2, 1), (2, 1, 1))(value)


class ProbeOfTest(unittest.TestCase):
    def test_by_hand(self):
        probe = probe_of(2, "xy", "number", (2, 1))
        self.assertEqual(parts(probe), (2, "xy", "number", (1, 2), (2, 1)))
        probe = probe_of(2, "xyz", "matrix", (3, 1, 4, 2))
        self.assertEqual(parts(probe), (2, "xyz", "matrix", (1, 2, 1, 2), (2, 2, 1, 1)))
        self.assertEqual(parts(probe_of(3, "", "number", ())), (3, "", "number", (), ()))

    def test_all_good_permutations(self):
        for size in SIZES:
            for content, kind in (("wxyz", "number"), ("xxx", "matrix"), ("x", "number"), ("", "matrix")):
                places = places_of(content, kind)
                for perm in all_perms(places):
                    if has_decreasing(perm, size + 1):
                        with self.assertRaises(InvalidPermutation):
                            probe_of(size, content, kind, perm)
                    else:
                        shades = colours(perm)
                        expected = Probe(size, content, kind, shades, moved(perm, shades))
                        self.assertEqual(probe_of(size, content, kind, perm), expected)
                        self.assertIsInstance(probe_of(size, content, kind, perm), Probe)
                        self.assertTrue(all(1 <= shade <= size for shade in shades))

    def test_example(self):
        probe = probe_of(2, "xy", "number", (2, 1))
        self.assertEqual((probe.columns, probe.rows), ((1, 2), (2, 1)))
        self.assertEqual(str(probe(EXAMPLE)), "5")

    def test_errors(self):
        for size in NO_SIZES:
            for perm in ((1, 2), (2, 1), (), (1, 1)):
                with self.assertRaises(WrongSize):
                    probe_of(size, "xy", "number", perm)
        for size in SIZES:
            for perm in ((), (1,), (1, 2, 3), (1, 1), (0, 1), (2, 3)):
                with self.assertRaises(InvalidPermutation):
                    probe_of(size, "xy", "number", perm)
            for perm in ((1, 2), (1, 2, 3, 4), (1, 1, 2)):
                with self.assertRaises(InvalidPermutation):
                    probe_of(size, "xy", "matrix", perm)
        for size, perm in ((1, (2, 1, 3, 4)), (2, (3, 2, 1, 4)), (3, (4, 3, 2, 1)), (2, (4, 1, 3, 2))):
            with self.assertRaises(InvalidPermutation):
                probe_of(size, "wxyz", "number", perm)


class ProbesOfTest(unittest.TestCase):
    def test_order(self):
        for size in SIZES:
            for content, kind in (("wxyz", "number"), ("xxx", "matrix"), ("xx", "number"), ("", "matrix"),
                                  ("", "number")):
                good = [perm for perm in all_perms(places_of(content, kind)) if not has_decreasing(perm, size + 1)]
                found = probes_of(size, content, kind)
                self.assertIsInstance(found, list)
                self.assertEqual(found, [probe_of(size, content, kind, perm) for perm in good])

    def test_6_places(self):
        for size, count in ((1, 1), (2, 132), (3, 513)):
            self.assertEqual(len(probes_of(size, "abcdef", "number")), count)
            self.assertEqual(len(probes_of(size, "xxxxx", "matrix")), count)

    def test_results_are_new(self):
        probes_of(2, "xy", "number").clear()
        self.assertEqual(len(probes_of(2, "xy", "number")), 2)

    def test_errors(self):
        for size in NO_SIZES:
            for content in ("", "xy", "x" * 7):
                for kind in KINDS:
                    with self.assertRaises(WrongSize):
                        probes_of(size, content, kind)
        for size in SIZES:
            for content, kind in (("x" * 7, "number"), ("abcdefg", "number"), ("x" * 6, "matrix"),
                                  ("x" * 20, "number")):
                with self.assertRaises(TooLarge):
                    probes_of(size, content, kind)


class LawTest(unittest.TestCase):
    """The sentences of point 107."""

    def test_alike_polynomials_have_the_same_values(self):
        for size in SIZES:
            for zero in zero_polys(size):
                for value in drawn_polys()[1::4]:
                    if value.kind == zero.kind:
                        for content in contents_in(value + zero)[:4]:
                            for probe in probes_of(size, content, value.kind)[::3]:
                                self.assertEqual(probe(value + zero), probe(value))
        # This holds for all probes of the size, also those that are not in the list of probes_of.
        bracket = read_poly("matrix | 1 - xx | -1 (x) x | 1/2 (x)(x) - | -1/2 (xx) -")
        for columns in ((1, 1, 1), (1, 2, 2), (2, 1, 1), (2, 2, 1)):
            for rows in ((1, 1, 1), (1, 2, 2), (2, 1, 1), (2, 2, 1), (1, 1, 2)):
                self.assertEqual(Probe(2, "xx", "matrix", columns, rows)(bracket), Ratio(0))

    def test_zero_exactly_if_all_values_are(self):
        for size in SIZES:
            for value in drawn_polys() + zero_polys(1) + zero_polys(2) + zero_polys(3):
                for content in contents_in(value)[-3:]:
                    part = part_of(value, content)
                    found = [probe(part) == Ratio(0) for probe in probes_of(size, content, part.kind)]
                    self.assertEqual(all(found), is_zero_somewhere(part, size))

    def test_ratios(self):
        value = poly("number", ("1/3", ["xx"], ""), ("-5/7", ["x", "x"], ""))
        # The first probe has the columns and rows (1, 1), so it takes both permutations.
        self.assertEqual([probe(value) for probe in probes_of(2, "xx", "number")], [ratio("-16/21"), ratio("2/3")])


if __name__ == "__main__":
    unittest.main()
