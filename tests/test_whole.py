"""Points 1 and 2: what holds for all functions of the program."""

import unittest

from helpers import SIZES, drawn_poly, law, matrix_of, perm_sum, poly, some_matrices

from tablelaws.alternating import alternating_sum, relation_sum
from tablelaws.bench import Bench
from tablelaws.cells import cell_of, choices_of, chosen_sums, linear_value, moved_row, place_matrices
from tablelaws.certificates import Certificate, accepts, certify, conclusion
from tablelaws.combining import Combination, combine, independent, trace_free, words_of
from tablelaws.counting import shapes_of
from tablelaws.decreasing import decreasing_places
from tablelaws.evaluating import value_at
from tablelaws.expanding import expand, expand_steps
from tablelaws.grids import all_matrices, first_difference
from tablelaws.learning import from_values, learn, run_probe
from tablelaws.linearizing import linearize, restitute
from tablelaws.listing import all_permutations, good_permutations
from tablelaws.matrices import Matrix
from tablelaws.measures import measure_step
from tablelaws.normalforms import is_zero, normal_form
from tablelaws.notation import read_poly, show_poly
from tablelaws.onematrix import characteristic, diagonal_matrix, diagonal_witness, elementary, reduce_one
from tablelaws.pairs import reduce_pair
from tablelaws.parts import contents_in, part_of
from tablelaws.permsums import PermSum
from tablelaws.polys import Poly
from tablelaws.probes import Probe, probe_of, probes_of
from tablelaws.programs import Program
from tablelaws.ratios import Ratio
from tablelaws.reading import read_program
from tablelaws.reducing import reduce_sum
from tablelaws.replacing import renamed, reversed_poly, substitute
from tablelaws.reports import matrix_lines, point_lines, report
from tablelaws.running import run_program, run_steps
from tablelaws.staircases import doubled_arrows, doubled_staircase, stair_arrows, staircase
from tablelaws.standard import split_standard, standard, standard_value
from tablelaws.tableaux import perm_of, tableaux_of
from tablelaws.trails import balance, trails
from tablelaws.verdicts import Verdict, alike_sizes, compare_polys, compare_programs
from tablelaws.witnesses import witness_for
from tablelaws.wordlaws import word_witness
from tablelaws.words import content_of, term_key
from tablelaws.writing import write_program

NUMBER = drawn_poly("number", "xy", 4, 6, 1)
MATRIX = drawn_poly("matrix", "xy", 4, 6, 2)
ONE = drawn_poly("matrix", "x", 5, 6, 3)
ZERO = law("matrix", "x", "y")
BRACKET = poly("matrix", ("1", [], "xy"), ("-1", [], "yx"))
SUM = perm_sum(4, p4321="1", p1234="-2", p3412="1/2")
TEXT = """letters x y
def f a b
let p = times a b
end p
let q = call f y x
let r = call f x y
let s = diff q r
give s"""
PROGRAM = read_program(TEXT)
SQUARE = Program("x", [("letter", "x"), ("power", 0, 2)], 1)
POINT = some_matrices("xyz", 2)


def bench():
    found = Bench(2)
    for name, text in (("a", TEXT), ("b", "letters x\nlet T = trace x\ngive T"), ("c", "letters x y\ngive y")):
        found.load(name, text)
    return found


# Functions with the lists of their arguments.
CALLS = (
    (Matrix, [[1, 2], (3, Ratio(1, 2))]), (term_key, ["yx", "x"], "y"), (content_of, (("x", "xy"), "yx")),
    (Poly, "matrix", [(["yx"], "y", Ratio(2)), (("x",), "", Ratio(1))]), (PermSum, 2, [((2, 1), Ratio(3))]),
    (Program, "x", [("letter", "x"), ("trace", 0)], 1), (measure_step, ("sum", 0, 1), [(1, 1, 0), (0, 1, 0)]),
    (read_program, TEXT), (write_program, NUMBER), (run_steps, PROGRAM, 2, POINT), (run_program, PROGRAM, 2, POINT),
    (first_difference, SQUARE, PROGRAM, 1, [0, 2]), (expand_steps, PROGRAM, 2), (expand, PROGRAM, 2),
    (contents_in, MATRIX), (part_of, MATRIX, "xy"), (value_at, MATRIX, 2, POINT),
    (substitute, MATRIX, {"x": BRACKET, "q": ONE}, 2), (reversed_poly, MATRIX), (renamed, MATRIX), (show_poly, MATRIX),
    (read_poly, "matrix | 2 - xy"), (decreasing_places, (3, 2, 1), 2), (tableaux_of, (3, 1, 4, 2)),
    (perm_of, ((2, 1),), ((1, 2),)), (shapes_of, 4, 2), (linearize, MATRIX, "xy"), (restitute, SUM, "xyz", "matrix"),
    (moved_row, (2, 1), (5, 6)), (cell_of, SUM, (1, 2, 1, 2), (2, 1, 2, 1)), (place_matrices, 2, (1, 2), (2, 2)),
    (chosen_sums, "xxy", [Matrix.one(2), Matrix.unit(2, 1, 2), Matrix.zero(2)], (1, 2, 3)),
    (linear_value, NUMBER, "xy", 2, [Matrix.one(2), Matrix.unit(2, 1, 2)]), (alternating_sum, 4, (1, 3)),
    (relation_sum, 3, (Ratio(2), (2, 3, 1), (1, 3))), (reduce_sum, 2, SUM),
    (Certificate, 1, "matrix", [("x", Ratio(1), (1, 2), (1, 2))]), (certify, 2, ZERO), (certify, 3, ZERO),
    (accepts, certify(2, ZERO), ZERO), (conclusion, certify(2, ZERO)), (normal_form, 2, MATRIX), (is_zero, 2, ZERO),
    (witness_for, 2, MATRIX), (compare_polys, 2, MATRIX, ONE), (compare_polys, 2, ZERO, poly("matrix")),
    (compare_programs, 2, PROGRAM, SQUARE), (alike_sizes, PROGRAM, SQUARE), (probe_of, 2, "xy", "number", (2, 1)),
    (probes_of, 2, "xy", "matrix"), (from_values, 2, "xy", "number", [Ratio(12), Ratio(5)]),
    (run_probe, PROGRAM, probe_of(2, "xy", "matrix", (2, 3, 1))), (learn, PROGRAM, 2, "xy"),
    (combine, 2, MATRIX, [ONE, MATRIX + ONE]), (combine, 2, MATRIX, [ONE, BRACKET]),
    (independent, 2, [MATRIX, ONE, MATRIX - ONE, BRACKET]), (words_of, "xxy"), (trace_free, 2, BRACKET),
    (trace_free, 3, ZERO), (standard, "xyz"), (split_standard, "xyz", 2), (standard_value, 2, list(POINT.values())),
    (stair_arrows, 2, 3), (doubled_arrows, 2, 2), (staircase, 2, "yx"), (doubled_staircase, 1, "yx", 1),
    (word_witness, 2, BRACKET), (balance, [(1, 2), (2, 1)], 1, 1), (elementary, 3, "x"), (characteristic, 2, "x"),
    (reduce_one, 2, ONE), (diagonal_matrix, 1, 2), (diagonal_witness, 2, ONE), (reduce_pair, MATRIX, "xy"),
    (report, bench()), (matrix_lines, matrix_of("1 -2; 1/2 3")), (point_lines, POINT),
    (Bench.classes, bench()), (Bench.separator, bench()), (Bench.results, bench(), POINT), (Bench.normal, bench(), "a"),
    (Bench.compare, bench(), "a", "c"), (Bench.all_letters, bench()), (list, bench()), (len, bench()),
)
GENERATORS = (
    (all_matrices, 1, [5, 0]), (all_permutations, 3), (good_permutations, 2, 3), (choices_of, "xxy"),
    (trails, [(1, 1), (1, 1)], 1, 1),
)


def frozen(value):
    """A copy of a value that consists of plain Python values only."""
    if isinstance(value, (list, tuple)):
        return [type(value).__name__] + [frozen(item) for item in value]
    if isinstance(value, dict):
        return {key: frozen(item) for key, item in value.items()}
    if isinstance(value, (Ratio, Matrix, Poly, PermSum, Program, Certificate, Verdict, Probe, Combination, Bench)):
        return [type(value).__name__] + [frozen(item) for item in vars(value).values()]
    return value


def spoil(value):
    """Changes all lists and dicts within a value that was returned."""
    if isinstance(value, (Verdict, Combination)):
        for item in vars(value).values():
            spoil(item)
    if isinstance(value, (list, tuple)):
        for item in value:
            spoil(item)
    if isinstance(value, list):
        value.append("spoiled")
        value.reverse()
    if isinstance(value, dict):
        value["spoiled"] = 1
        value.pop("x", None)


class WholeTest(unittest.TestCase):
    def test_arguments_and_results_stay(self):
        for function, *arguments in CALLS:
            before = frozen(arguments)
            first = function(*arguments)
            self.assertEqual(frozen(arguments), before, function.__name__)
            shown = frozen(first)
            second = function(*arguments)
            self.assertEqual(frozen(second), shown, function.__name__)
            spoil(second)
            self.assertEqual(frozen(first), shown, function.__name__)
            self.assertEqual(frozen(arguments), before, function.__name__)
            self.assertEqual(frozen(function(*arguments)), shown, function.__name__)

    def test_generators(self):
        for function, *arguments in GENERATORS:
            before = frozen(arguments)
            first = frozen(list(function(*arguments)))
            self.assertEqual(frozen(list(function(*arguments))), first)
            # Two iterations at once do not disturb each other.
            pairs = list(zip(function(*arguments), function(*arguments)))
            self.assertEqual(frozen([pair[0] for pair in pairs]), first)
            self.assertEqual(frozen([pair[1] for pair in pairs]), first)
            self.assertEqual(frozen(arguments), before)

    def test_lists_that_a_caller_changes_afterwards(self):
        cycles = ["yx"]
        rows, terms, steps = [[1, 2], [3, 4]], [(cycles, "y", Ratio(2))], [("letter", "x")]
        pairs, relations = [((2, 1), Ratio(3))], [("x", Ratio(1), (1, 2), (1, 2))]
        made = [Matrix(rows), Poly("matrix", terms), Program("x", steps, 0), PermSum(2, pairs),
                Certificate(1, "matrix", relations)]
        before = frozen(made)
        rows[0][0] = 9
        for values in (cycles, rows, terms, steps, pairs, relations):
            spoil(values)
        self.assertEqual(frozen(made), before)

    def test_methods_change_nothing(self):
        values = [Ratio(2, 3), matrix_of("1 2; 3 4"), MATRIX, SUM, certify(2, ZERO)]
        before = frozen(values)
        fraction, matrix, value, permsum, certificate = values
        for result in (fraction + fraction, fraction.power(3), -fraction, fraction // fraction, matrix + matrix,
                       matrix * matrix, matrix.transposed(), matrix.padded(3), matrix.power(2), matrix.trace(),
                       value + value, value * value, value.power(2), value.traced(2), value.scaled(fraction),
                       permsum * permsum, permsum - permsum, -permsum, certificate + certificate, -certificate,
                       certificate.scaled(fraction), certificate.contents, certificate.well_formed):
            self.assertIsNotNone(result)
        self.assertEqual(frozen(values), before)


    def test_comparing_objects_of_other_classes(self):
        values = [Ratio(1), Matrix([[1]]), poly("number", ("1", [], "")), poly("matrix", ("1", [], "")), SUM,
                  certify(2, ZERO), probe_of(2, "xy", "number", (2, 1)), 1, "1", (1,), [1], None, {}]
        for k, first in enumerate(values):
            for j, second in enumerate(values):
                self.assertIs(first == second, j == k, (first, second))
                self.assertIs(first != second, j != k)


class DecisionTest(unittest.TestCase):
    """Point 1: a certificate or matrices, for programs that are written out of drawn polynomials."""

    def test_either_a_certificate_or_matrices(self):
        for size in SIZES:
            for kind in ("number", "matrix"):
                values = [drawn_poly(kind, "xy", 3, 4, seed) for seed in range(3)]
                values.extend([normal_form(size, values[0]), values[1] + values[2] - values[2]])
                programs = [read_program(write_program(value)) for value in values]
                for k, first in enumerate(programs):
                    for second in programs[:k]:
                        verdict = compare_programs(size, first, second)
                        difference = expand(first, size) - expand(second, size)
                        if verdict:
                            self.assertTrue(accepts(verdict.certificate, difference))
                            for seed in (1, 2):
                                point = some_matrices("xy", size, seed)
                                self.assertEqual(run_program(first, size, point), run_program(second, size, point))
                        else:
                            self.assertNotEqual(run_program(first, size, verdict.matrices),
                                                run_program(second, size, verdict.matrices))
                self.assertTrue(compare_programs(size, programs[3], programs[0]))
                self.assertTrue(compare_programs(size, programs[4], programs[1]))


if __name__ == "__main__":
    unittest.main()
