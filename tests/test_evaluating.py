import unittest

from helpers import KINDS, NO_SIZES, SIZES, matrix_of, plain, poly, poly_value, ratio, some_matrices, table

from tablelaws.errors import MissingMatrix, WrongSize
from tablelaws.evaluating import value_at
from tablelaws.expanding import expand
from tablelaws.matrices import Matrix
from tablelaws.programs import Program
from tablelaws.ratios import Ratio
from tablelaws.running import run_program

NUMBERS = (
    poly("number", ("1", ["x"], "")), poly("number", ("-2/3", ["xy"], ""), ("5", [], "")),
    poly("number", ("1", ["xxy", "y", "y"], ""), ("-1/7", ["xyxyy"], ""), ("3", ["x", "x"], ""), ("1/2", [], "")),
    poly("number", ("1", ["zyx"], ""), ("-1", ["xyz"], "")),
)
MATRICES = (
    poly("matrix", ("1", [], "x")), poly("matrix", ("-2/3", [], "xy"), ("5", [], "")),
    poly("matrix", ("1", ["xxy"], "yyx"), ("-1/7", ["x"], ""), ("3", ["x", "x"], "x"), ("1/2", [], "xyxyy")),
    poly("matrix", ("1", [], "zyx"), ("-1", [], "xyz"), ("2", ["yz"], "x")),
)


class ValueTest(unittest.TestCase):
    def test_both_kinds_at_each_size(self):
        for size in SIZES:
            for seed in (1, 2):
                matrices = some_matrices("xyz", size, seed)
                for value in NUMBERS + MATRICES:
                    self.assertEqual(plain(value_at(value, size, matrices)), poly_value(value, size, matrices))

    def test_kinds_of_the_values(self):
        for size in SIZES:
            matrices = some_matrices("xyz", size)
            for value in NUMBERS:
                self.assertIsInstance(value_at(value, size, matrices), Ratio)
            for value in MATRICES:
                found = value_at(value, size, matrices)
                self.assertIsInstance(found, Matrix)
                self.assertEqual(found.size, size)

    def test_by_hand(self):
        matrices = {"x": matrix_of("1 2; 3 4"), "y": matrix_of("0 1; 0 0")}
        self.assertEqual(table(value_at(poly("matrix", ("1", [], "xy")), 2, matrices)), [[0, 1], [0, 3]])
        self.assertEqual(table(value_at(poly("matrix", ("1", [], "yx")), 2, matrices)), [[3, 4], [0, 0]])
        self.assertEqual(str(value_at(poly("number", ("1/2", ["xy", "x"], "")), 2, matrices)), "15/2")
        self.assertEqual(table(value_at(poly("matrix", ("2", ["x"], "y"), ("1", [], "")), 2, matrices)),
                         [[1, 10], [0, 1]])

    def test_terms_without_letters(self):
        for size in SIZES:
            unit = [[int(i == j) for j in range(size)] for i in range(size)]
            scaled = [[-3 * entry for entry in row] for row in unit]
            self.assertEqual(str(value_at(poly("number", ("-3/2", [], "")), size, {})), "-3/2")
            self.assertEqual(table(value_at(poly("matrix", ("-3", [], "")), size, {})), scaled)

    def test_no_terms(self):
        for size in SIZES:
            self.assertEqual(value_at(poly("number"), size, {}), Ratio(0))
            self.assertEqual(value_at(poly("matrix"), size, {}), Matrix.zero(size))

    def test_further_letters_have_no_effect(self):
        matrices = {"a": Matrix([[1]]), "x": matrix_of("1 2; 3 4"), "y": Matrix.one(3), "z": Matrix.one(2)}
        self.assertEqual(table(value_at(poly("matrix", ("1", [], "xx")), 2, matrices)), [[7, 10], [15, 22]])
        self.assertEqual(str(value_at(poly("number", ("1", ["x"], "")), 2, matrices)), "5")
        self.assertEqual(str(value_at(poly("number", ("4", [], "")), 2, matrices)), "4")

    def test_values_of_programs(self):
        steps = [("letter", "x"), ("letter", "y"), ("one",), ("times", 0, 1), ("sum", 3, 2), ("power", 4, 2),
                 ("trace", 5), ("times", 6, 5), ("scale", ratio("-1/3"), 7)]
        for size in SIZES:
            matrices = some_matrices("xy", size, seed=4)
            for result in range(len(steps)):
                program = Program("xy", steps, result)
                self.assertEqual(value_at(expand(program, size), size, matrices),
                                 run_program(program, size, matrices))

    def test_great_degrees(self):
        value = poly("matrix", ("1", [], "x" * 20), ("-1", ["x" * 12], "x" * 8), ("2", ["xy" * 10], ""))
        matrices = some_matrices("xy", 2)
        self.assertEqual(plain(value_at(value, 2, matrices)), poly_value(value, 2, matrices))

    def test_arguments_stay(self):
        matrices = some_matrices("xyz", 2)
        value_at(MATRICES[2], 2, matrices)
        self.assertEqual(list(matrices), ["x", "y", "z"])
        self.assertEqual(matrices, some_matrices("xyz", 2))


class ErrorTest(unittest.TestCase):
    def assert_error(self, error, value, size, matrices):
        with self.assertRaises(error):
            value_at(value, size, matrices)

    def test_wrong_size(self):
        for size in NO_SIZES:
            for value in (NUMBERS[0], MATRICES[0]):
                self.assert_error(WrongSize, value, size, some_matrices("x", 2))
                # The size is checked before the letters.
                self.assert_error(WrongSize, value, size, {})
            for kind in KINDS:
                self.assert_error(WrongSize, poly(kind), size, {})

    def test_missing_matrix(self):
        for size in SIZES:
            for letters in ("", "y", "z", "yz", "xz", "xy"):
                for value in (NUMBERS[3], MATRICES[3]):
                    self.assert_error(MissingMatrix, value, size, some_matrices(letters, size))

    def test_matrix_of_another_size(self):
        for size in SIZES:
            for other in SIZES:
                if size != other:
                    for letter in "xyz":
                        matrices = dict(some_matrices("xyz", size), **some_matrices(letter, other))
                        for value in (NUMBERS[3], MATRICES[3]):
                            self.assert_error(WrongSize, value, size, matrices)

    def test_the_first_letter_with_a_fault_decides(self):
        for value in (poly("matrix", ("1", [], "yx")), poly("number", ("1", ["y"], ""), ("2", ["x"], ""))):
            self.assert_error(WrongSize, value, 2, {"x": Matrix.one(3)})
            self.assert_error(MissingMatrix, value, 2, {"y": Matrix.one(3)})
            self.assert_error(MissingMatrix, value, 2, {"x": Matrix.one(2)})
            self.assert_error(WrongSize, value, 2, {"x": Matrix.one(2), "y": Matrix.one(1)})


if __name__ == "__main__":
    unittest.main()
