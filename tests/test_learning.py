import unittest

from helpers import (KINDS, NO_SIZES, SIZES, all_perms, drawn_poly, fraction, has_decreasing, is_zero_somewhere, law,
                     poly)

from tablelaws.cells import cell_of
from tablelaws.errors import TooLarge, WrongKind, WrongSize
from tablelaws.evaluating import value_at
from tablelaws.expanding import expand
from tablelaws.learning import from_values, learn, run_probe
from tablelaws.linearizing import linearize, places_of, restitute
from tablelaws.matrices import Matrix
from tablelaws.normalforms import normal_form
from tablelaws.permsums import PermSum
from tablelaws.polys import Poly
from tablelaws.probes import Probe, probe_of, probes_of
from tablelaws.programs import Program
from tablelaws.ratios import Ratio
from tablelaws.reading import read_program
from tablelaws.running import run_program
from tablelaws.writing import write_program

CONTENTS = (("", "number"), ("", "matrix"), ("x", "number"), ("x", "matrix"), ("xy", "number"), ("xx", "matrix"),
            ("xxy", "number"), ("xyz", "matrix"), ("wxyz", "number"), ("xxxx", "number"), ("xxyy", "matrix"))


def drawn_ratios(count, seed):
    found, state = [], seed
    for _ in range(count):
        state = (state * 1103515245 + 12345) % 2147483648
        found.append(Ratio(state // 65536 % 11 - 5, state // 1048576 % 3 + 1))
    return found


def one_content(content, kind, seed):
    """A polynomial of which all terms have one content."""
    whole = linearize(poly(kind), content)
    perms = all_perms(whole.places)
    pairs = list(zip(perms[seed % 3::5], drawn_ratios(len(perms), seed)))
    return restitute(PermSum(whole.places, pairs), content, kind)


def program_of(value):
    """A program that expands to a polynomial of at most 12 terms, at every size."""
    return read_program(write_program(value))


class FromValuesTest(unittest.TestCase):
    def test_the_sum_that_has_the_values(self):
        for size in SIZES:
            for content, kind in CONTENTS:
                if len(set(content)) == len(content):
                    # With different letters the sum can be read off the polynomial.
                    probes = probes_of(size, content, kind)
                    values = drawn_ratios(len(probes), 3)
                    found = from_values(size, content, kind, values)
                    self.assertIsInstance(found, Poly)
                    self.assertEqual(found.kind, kind)
                    total = linearize(found, content)
                    self.assertFalse(any(has_decreasing(perm, size + 1) for perm in total))
                    self.assertEqual([cell_of(total, probe.columns, probe.rows) for probe in probes], values)

    def test_equal_letters(self):
        # Both permutations of 2 places are read as terms of the content xx, each with 1/2 of its coefficient.
        found = from_values(2, "xx", "number", [Ratio(12), Ratio(5)])
        self.assertEqual(found, poly("number", ("7/2", ["x", "x"], ""), ("5/2", ["xx"], "")))
        found = from_values(1, "xxx", "number", [Ratio(6)])
        self.assertEqual(found, poly("number", ("1", ["x", "x", "x"], "")))

    def test_values_by_the_sum_of_good_permutations(self):
        for size in SIZES:
            for content, kind in CONTENTS:
                places = places_of(content, kind)
                good = [perm for perm in all_perms(places) if not has_decreasing(perm, size + 1)]
                total = PermSum(places, list(zip(good, drawn_ratios(len(good), 8))))
                values = []
                for perm in good:
                    probe = probe_of(size, content, kind, perm)
                    values.append(cell_of(total, probe.columns, probe.rows))
                self.assertEqual(from_values(size, content, kind, values), restitute(total, content, kind))

    def test_values_of_a_polynomial_give_its_normal_form(self):
        for size in SIZES:
            for content, kind in CONTENTS:
                value = one_content(content, kind, 4)
                values = [probe(value) for probe in probes_of(size, content, kind)]
                self.assertEqual(from_values(size, content, kind, values), normal_form(size, value))

    def test_example(self):
        found = from_values(2, "xy", "number", [Ratio(12), Ratio(5)])
        self.assertEqual([(key, str(found[key])) for key in found], [((("x", "y"), ""), "7"), ((("xy",), ""), "5")])

    def test_the_empty_content(self):
        for size in SIZES:
            for kind in KINDS:
                self.assertEqual(from_values(size, "", kind, [Ratio(-2, 3)]), poly(kind, ("-2/3", [], "")))
                self.assertEqual(from_values(size, "", kind, [Ratio(0)]), poly(kind))

    def test_the_list_stays(self):
        values = [Ratio(12), Ratio(5)]
        from_values(2, "xy", "number", values)
        self.assertEqual(values, [Ratio(12), Ratio(5)])

    def test_6_places(self):
        value = law("number", "ab", "cd", "ef") + poly("number", ("1/2", ["fedcba"], ""))
        for size in (2, 3):
            values = [probe(value) for probe in probes_of(size, "abcdef", "number")]
            self.assertEqual(from_values(size, "abcdef", "number", values), normal_form(size, value))

    def test_errors(self):
        for size in NO_SIZES:
            for content, values in (("xy", []), ("x" * 9, []), ("xy", [Ratio(1)] * 2)):
                with self.assertRaises(WrongSize):
                    from_values(size, content, "number", values)
        for size in SIZES:
            for content, kind in (("x" * 7, "number"), ("abcdef", "matrix")):
                for values in ([], [Ratio(1)], [Ratio(1)] * 513):
                    with self.assertRaises(TooLarge):
                        from_values(size, content, kind, values)
            for content, kind in CONTENTS:
                count = len(probes_of(size, content, kind))
                for many in (0, count - 1, count + 1, count + 5):
                    if many != count:
                        with self.assertRaises(WrongSize):
                            from_values(size, content, kind, [Ratio(0)] * many)


class RunProbeTest(unittest.TestCase):
    def test_values_at_the_polynomial(self):
        for size in SIZES:
            for content, kind in CONTENTS:
                value = one_content(content, kind, 7)
                if len(value) <= 12:
                    program = program_of(value)
                    for probe in probes_of(size, content, kind)[::2]:
                        found = run_probe(program, probe)
                        self.assertIsInstance(found, Ratio)
                        self.assertEqual(found, probe(value))

    def test_by_hand(self):
        # The places of xx have the matrices E(1, 2) and E(2, 1): the rows are (1, 2), the columns (2, 1).
        square = Program("x", [("letter", "x"), ("times", 0, 0), ("trace", 1)], 2)
        probe = Probe(2, "xx", "number", (2, 1), (1, 2))
        self.assertEqual(run_probe(square, probe), Ratio(2))
        probe = Probe(2, "x", "matrix", (1, 2), (2, 1))
        # The entry in row 2 and column 1 of the matrix E(2, 1).
        self.assertEqual(run_probe(Program("x", [("letter", "x")], 0), probe), Ratio(1))
        self.assertEqual(run_probe(Program("x", [("letter", "x"), ("scale", Ratio(1, 3), 0)], 1), probe), Ratio(1, 3))
        self.assertEqual(run_probe(Program("x", [("letter", "x"), ("one",), ("sum", 0, 1)], 2), probe), Ratio(1))

    def test_the_sum_over_the_choices(self):
        """The program has terms of other contents, which the sum does not leave out."""
        value = poly("number", ("1", [], ""), ("2", ["x"], ""), ("3", ["xy"], ""), ("1", ["xxy"], ""),
                     ("-1", ["xxxyy"], ""), ("5", ["y", "y"], ""))
        program = program_of(value)
        for size in SIZES:
            for content in ("", "x", "xx", "xxy", "xy"):
                for probe in probes_of(size, content, "number"):
                    matrices = [Matrix.unit(size, row, column) for column, row in zip(probe.columns, probe.rows)]
                    expected = 0
                    for mask in range(2 ** len(content)):
                        chosen = [k for k in range(len(content)) if mask >> k & 1]
                        if {content[k] for k in chosen} == set(content):
                            sums = {"x": Matrix.zero(size), "y": Matrix.zero(size)}
                            for k in chosen:
                                sums[content[k]] = sums[content[k]] + matrices[k]
                            part = fraction(value_at(value, size, sums))
                            expected += part * (-1) ** (len(content) - len(chosen))
                    self.assertEqual(fraction(run_probe(program, probe)), expected)

    def test_letters_of_the_program_that_the_content_does_not_have(self):
        program = Program("xyz", [("letter", "x"), ("letter", "z"), ("sum", 0, 1), ("trace", 2)], 3)
        only = Program("x", [("letter", "x"), ("trace", 0)], 1)
        for size in SIZES:
            for probe in probes_of(size, "x", "number"):
                self.assertEqual(run_probe(program, probe), run_probe(only, probe))

    def test_letters_of_the_content_that_the_program_does_not_have(self):
        program = Program("x", [("letter", "x"), ("trace", 0)], 1)
        for size in SIZES:
            zero = {"x": Matrix.zero(size)}
            for content in ("a", "ab", "aab"):
                for probe in probes_of(size, content, "number"):
                    # All choices have the same result, the one at the zero matrix.
                    self.assertEqual(run_probe(program, probe), run_program(program, size, zero))
            probe = probe_of(size, "ax", "number", (1, 2))
            self.assertEqual(run_probe(program, probe), Ratio(1))
            constant = Program("", [("const", Ratio(7, 2))], 0)
            self.assertEqual(run_probe(constant, probe), Ratio(7, 2))
            # Two places with the same letter: one choice with both and two with one each.
            self.assertEqual(run_probe(constant, probe_of(size, "xx", "number", (1, 2))), Ratio(-7, 2))

    def test_wrong_kind(self):
        number = Program("x", [("letter", "x"), ("trace", 0)], 1)
        matrix = Program("x", [("letter", "x")], 0)
        for probe in probes_of(2, "x", "matrix"):
            with self.assertRaises(WrongKind):
                run_probe(number, probe)
        for probe in probes_of(2, "x", "number"):
            with self.assertRaises(WrongKind):
                run_probe(matrix, probe)


class LearnTest(unittest.TestCase):
    def test_the_normal_form(self):
        for size in SIZES:
            for content, kind in CONTENTS:
                value = one_content(content, kind, 5)
                if len(value) <= 12:
                    found = learn(program_of(value), size, content)
                    self.assertEqual(found, normal_form(size, value))
                    self.assertEqual(found.kind, kind)

    def test_the_polynomial_of_the_size(self):
        # The trace of the identity matrix is the size.
        program = Program("x", [("letter", "x"), ("one",), ("trace", 1), ("times", 2, 0)], 3)
        for size in SIZES:
            self.assertEqual(learn(program, size, "x"), normal_form(size, expand(program, size)))

    def test_it_is_learned_from_runs(self):
        """`learn` is from_values of the values of run_probe, also for programs with several contents."""
        value = drawn_poly("matrix", "xyz", 3, 8, 2)
        program = program_of(value)
        for size in SIZES:
            for content in ("x", "xy", "xxy", "a", ""):
                values = [run_probe(program, probe) for probe in probes_of(size, content, "matrix")]
                self.assertEqual(learn(program, size, content), from_values(size, content, "matrix", values))

    def test_6_places(self):
        for content in ("uvwxyz", "xxyzzz"):
            pair = [content[2:], content[:2]]
            value = poly("number", ("2", [content], ""), ("-1/3", [content[::-1]], ""), ("1", pair, ""))
            self.assertEqual(learn(program_of(value), 2, content), normal_form(2, value))
        value = poly("number", ("2", ["uvwxyz"], ""), ("1", ["uvz", "xyw"], ""))
        self.assertEqual(learn(program_of(value), 3, "uvwxyz"), normal_form(3, value))

    def test_alike_programs(self):
        value = law("matrix", "x", "y")
        self.assertEqual(learn(program_of(value), 2, "xy"), poly("matrix"))
        self.assertEqual(len(learn(program_of(value), 3, "xy")), 6)
        self.assertFalse(is_zero_somewhere(learn(program_of(value), 3, "xy"), 3))

    def test_few_places(self):
        value = poly("number", ("3", ["xy"], ""), ("5", ["x", "y"], ""))
        self.assertEqual(learn(program_of(value), 2, "xy"), value)

    def test_errors(self):
        number = Program("x", [("letter", "x"), ("trace", 0)], 1)
        matrix = Program("x", [("letter", "x")], 0)
        for size in NO_SIZES:
            for content in ("x", "x" * 7):
                for program in (number, matrix):
                    with self.assertRaises(WrongSize):
                        learn(program, size, content)
        for size in SIZES:
            with self.assertRaises(TooLarge):
                learn(number, size, "x" * 7)
            with self.assertRaises(TooLarge):
                learn(matrix, size, "x" * 6)


if __name__ == "__main__":
    unittest.main()
