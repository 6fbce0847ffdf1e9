import unittest

from helpers import NO_SIZES, SIZES, drawn_polys, is_zero_somewhere, law, poly, poly_value, table, zero_polys

from tablelaws.certificates import Certificate, accepts
from tablelaws.errors import TooLarge, WrongKind, WrongSize
from tablelaws.expanding import expand
from tablelaws.matrices import Matrix
from tablelaws.polys import Poly
from tablelaws.programs import Program
from tablelaws.ratios import Ratio
from tablelaws.reading import read_program
from tablelaws.running import run_program
from tablelaws.verdicts import Verdict, alike_sizes, compare_polys, compare_programs

X = Poly.letter("x")
TRACE = Program("x", [("letter", "x"), ("trace", 0)], 1)
LONG = poly("number", ("1", ["xxxxxxx"], ""))
# Programs for the trace of the identity matrix multiplied by itself, and for 4 times that trace minus 3.
SQUARE = Program("", [("one",), ("trace", 0), ("times", 1, 1)], 2)
LINE = Program("", [("one",), ("trace", 0), ("scale", Ratio(4), 1), ("const", Ratio(3)), ("diff", 2, 3)], 4)


def program(letters, give, *lines):
    return read_program("\n".join(["letters " + " ".join(letters) if letters else "letters"]
                                  + [f"let {line}" for line in lines] + [f"give {give}"]))


COMMUTATOR = program("xy", "c", "p = times x y", "q = times y x", "c = diff p q")
ZERO = program("", "z", "o = one", "z = scale 0 o")
# The square of the commutator, and half its trace times the identity matrix: alike at the sizes 1 and 2.
HALL = program("xy", "s", "p = times x y", "q = times y x", "c = diff p q", "s = power c 2")
HALF = program("xy", "h", "p = times x y", "q = times y x", "c = diff p q", "s = power c 2", "T = trace s",
               "U = scale 1/2 T", "o = one", "h = times U o")
# For size 2 by the law of Cayley and Hamilton: x x - tr(x) x + det(x).
DETERMINANT = program("x", "D", "p = power x 2", "T = trace x", "S = power T 2", "U = trace p", "V = diff S U",
                      "D = scale 1/2 V")


class VerdictTest(unittest.TestCase):
    def test_it_stores_its_arguments(self):
        certificate = Certificate.empty(2, "number")
        found = Verdict(True, certificate, None)
        self.assertIs(found.alike, True)
        self.assertIs(found.certificate, certificate)
        self.assertIsNone(found.matrices)
        self.assertIs(bool(found), True)
        matrices = {"x": Matrix.one(2)}
        found = Verdict(False, None, matrices)
        self.assertIs(found.alike, False)
        self.assertIsNone(found.certificate)
        self.assertEqual(found.matrices, matrices)
        self.assertIs(bool(found), False)
        self.assertIs(bool(Verdict(False, None, {})), False)
        self.assertIs(bool(Verdict(True, None, {})), True)


class PolysTest(unittest.TestCase):
    def assert_alike(self, size, first, second):
        found = compare_polys(size, first, second)
        self.assertIsInstance(found, Verdict)
        self.assertIs(found.alike, True)
        self.assertIs(bool(found), True)
        self.assertIsNone(found.matrices)
        self.assertIs(accepts(found.certificate, first - second), True)
        self.assertEqual((found.certificate.size, found.certificate.kind), (size, first.kind))

    def assert_parted(self, size, first, second):
        found = compare_polys(size, first, second)
        self.assertIsInstance(found, Verdict)
        self.assertIs(found.alike, False)
        self.assertIs(bool(found), False)
        self.assertIsNone(found.certificate)
        self.assertEqual("".join(sorted(found.matrices)), (first - second).used_letters())
        for matrix in found.matrices.values():
            self.assertEqual(matrix.size, size)
            for entry in sum(table(matrix), []):
                self.assertTrue(entry.denominator == 1 and 0 <= entry <= 36)
        for other in (Matrix.zero(size), Matrix.one(size)):
            matrices = {letter: other for letter in first.used_letters() + second.used_letters()}
            matrices.update(found.matrices)
            self.assertNotEqual(poly_value(first, size, matrices), poly_value(second, size, matrices))

    def test_alike(self):
        for size in SIZES:
            for zero in zero_polys(size):
                for value in drawn_polys()[::3] + [poly(zero.kind)]:
                    if value.kind == zero.kind:
                        self.assert_alike(size, value + zero, value)
                        self.assert_alike(size, value, value + zero)

    def test_parted(self):
        for size in SIZES:
            for value in drawn_polys(3):
                for other in drawn_polys(3)[::2]:
                    if value.kind == other.kind and not is_zero_somewhere(value - other, size):
                        self.assert_parted(size, value, other)

    def test_letters_that_the_difference_does_not_have(self):
        first = poly("number", ("1", ["x"], ""), ("2", ["y"], ""), ("1", ["z"], ""))
        second = poly("number", ("1", ["x"], ""), ("-1", ["y"], ""))
        for size in SIZES:
            self.assert_parted(size, first, second)
            self.assertEqual(sorted(compare_polys(size, first, second).matrices), ["y", "z"])
        found = compare_polys(2, X + poly("matrix", ("1", [], "")), X)
        self.assertEqual((found.alike, found.matrices), (False, {}))

    def test_long_terms_that_cancel(self):
        self.assert_alike(2, LONG, LONG)
        self.assert_parted(2, LONG + poly("number", ("1", ["x"], "")), LONG)

    def test_errors(self):
        short = poly("number", ("1", ["x"], ""))
        for size in NO_SIZES:
            for first, second in ((short, short), (short, X), (LONG, short), (LONG, X), (X, LONG)):
                with self.assertRaises(WrongSize):
                    compare_polys(size, first, second)
        for size in SIZES:
            for first, second in ((short, X), (X, short), (LONG, X), (X, LONG), (poly("number"), poly("matrix"))):
                with self.assertRaises(WrongKind):
                    compare_polys(size, first, second)
            for first, second in ((short, LONG), (LONG, short), (poly("matrix", ("1", [], "xyzxyz")), X)):
                with self.assertRaises(TooLarge):
                    compare_polys(size, first, second)


class ProgramsTest(unittest.TestCase):
    def assert_alike(self, size, first, second):
        found = compare_programs(size, first, second)
        self.assertIsInstance(found, Verdict)
        self.assertEqual((found.alike, bool(found), found.matrices), (True, True, None))
        self.assertIs(accepts(found.certificate, expand(first, size) - expand(second, size)), True)
        self.assertEqual(found.certificate.size, size)

    def assert_parted(self, size, first, second):
        found = compare_programs(size, first, second)
        self.assertIsInstance(found, Verdict)
        self.assertEqual((found.alike, bool(found), found.certificate), (False, False, None))
        self.assertEqual(sorted(found.matrices), sorted(set(first.letters + second.letters)))
        for matrix in found.matrices.values():
            self.assertEqual(matrix.size, size)
            for entry in sum(table(matrix), []):
                self.assertTrue(entry.denominator == 1 and 0 <= entry <= 36)
        self.assertFalse(run_program(first, size, found.matrices) == run_program(second, size, found.matrices))

    def test_both_results(self):
        for first, second, sizes in ((COMMUTATOR, ZERO, (1,)), (HALL, HALF, (1, 2)), (TRACE, TRACE, SIZES),
                                     (HALF, ZERO, (1,)), (SQUARE, LINE, (1, 3)), (TRACE, DETERMINANT, ())):
            for size in SIZES:
                if size in sizes:
                    self.assert_alike(size, first, second)
                    self.assert_alike(size, second, first)
                else:
                    self.assert_parted(size, first, second)
                    self.assert_parted(size, second, first)
            self.assertEqual(alike_sizes(first, second), sizes)
            self.assertEqual(alike_sizes(second, first), sizes)

    def test_letters_of_only_one_program(self):
        for letters in ("xzab", "bazx"):
            other = Program(letters, [("letter", "x"), ("const", Ratio(2)), ("trace", 0), ("times", 1, 2)], 3)
            for size in SIZES:
                self.assert_parted(size, TRACE, other)
                self.assert_parted(size, other, TRACE)
                self.assertEqual(list(compare_programs(size, TRACE, other).matrices), ["a", "b", "x", "z"])

    def test_without_letters(self):
        self.assertEqual(compare_programs(2, SQUARE, LINE).matrices, {})

    def test_errors(self):
        long = Program("xy", [("letter", "x"), ("power", 0, 6), ("letter", "y"), ("times", 1, 2), ("trace", 3)], 4)
        for size in NO_SIZES:
            for first, second in ((TRACE, TRACE), (TRACE, ZERO), (long, TRACE), (long, ZERO)):
                with self.assertRaises(WrongSize):
                    compare_programs(size, first, second)
        for size in SIZES:
            for first, second in ((TRACE, ZERO), (ZERO, TRACE), (long, ZERO), (ZERO, long)):
                with self.assertRaises(WrongKind):
                    compare_programs(size, first, second)
            with self.assertRaises(TooLarge):
                compare_programs(size, long, TRACE)
            with self.assertRaises(TooLarge):
                compare_programs(size, TRACE, long)
            self.assert_alike(size, long, long)


class AlikeSizesTest(unittest.TestCase):
    def test_example(self):
        self.assertEqual(alike_sizes(SQUARE, LINE), (1, 3))
        self.assertIsInstance(alike_sizes(SQUARE, LINE), tuple)

    def test_wrong_kind(self):
        for first, second in ((TRACE, ZERO), (COMMUTATOR, LINE)):
            with self.assertRaises(WrongKind):
                alike_sizes(first, second)

    def test_too_large_at_one_size_only(self):
        # The trace of the identity matrix minus a number is the factor of x to the power 7.
        for size in SIZES:
            steps = [("one",), ("trace", 0)]
            factors = []
            for other in SIZES:
                if other != size:
                    steps.extend([("const", Ratio(other)), ("diff", 1, len(steps))])
                    factors.append(len(steps) - 1)
            steps.extend([("times", factors[0], factors[1]), ("letter", "x"), ("power", len(steps) + 1, 6)])
            steps.append(("times", len(steps) - 1, len(steps) - 2))
            steps.append(("trace", len(steps) - 1))
            steps.append(("times", len(steps) - 1, len(steps) - 5))
            found = Program("x", steps, len(steps) - 1)
            self.assertEqual([len(expand(found, other)) for other in SIZES], [int(other == size) for other in SIZES])
            with self.assertRaises(TooLarge):
                compare_programs(size, found, TRACE)
            for other in SIZES:
                if other != size:
                    self.assertIs(compare_programs(other, found, TRACE).alike, False)
            with self.assertRaises(TooLarge):
                alike_sizes(found, TRACE)
            with self.assertRaises(TooLarge):
                alike_sizes(TRACE, found)
            with self.assertRaises(WrongKind):
                alike_sizes(found, ZERO)

    def test_laws(self):
        law_of_two = law("number", "x", "x", "x")
        self.assertEqual([compare_polys(size, law_of_two, poly("number")).alike for size in SIZES],
                         [True, True, False])


if __name__ == "__main__":
    unittest.main()
