import unittest
from fractions import Fraction

from helpers import (SIZES, matrix_of, plain, some_matrices, table, table_plus, table_scaled, table_times, table_trace,
                     unit_table)

from tablelaws.errors import MissingMatrix, WrongSize
from tablelaws.matrices import Matrix
from tablelaws.programs import Program
from tablelaws.ratios import Ratio
from tablelaws.running import run_program, run_steps

STEPS = [
    ("letter", "x"), ("letter", "y"), ("one",), ("const", Ratio(-2, 3)),
    ("sum", 0, 1), ("diff", 0, 1), ("times", 0, 1), ("times", 1, 0),
    ("scale", Ratio(5, 2), 6), ("trace", 6), ("power", 4, 3), ("power", 9, 2),
    ("times", 3, 6), ("times", 6, 3), ("times", 3, 9), ("sum", 3, 9), ("diff", 3, 9),
    ("scale", Ratio(-1, 2), 9), ("power", 0, 0), ("power", 3, 0), ("power", 4, 1), ("trace", 2),
]


def expected_values(size, x, y):
    """The values of STEPS, computed with Fraction objects."""
    third = Fraction(-2, 3)
    total, xy, yx = table_plus(x, y), table_times(x, y), table_times(y, x)
    trace = table_trace(xy)
    return [
        x, y, unit_table(size), third, total, table_plus(x, table_scaled(-1, y)), xy, yx,
        table_scaled(Fraction(5, 2), xy), trace, table_times(total, table_times(total, total)), trace ** 2,
        table_scaled(third, xy), table_scaled(third, xy), third * trace, third + trace, third - trace,
        -trace / 2, unit_table(size), 1, total, size,
    ]


class RunningTest(unittest.TestCase):
    def test_each_kind_of_step_at_each_size(self):
        program = Program("xy", STEPS, 0)
        for size in SIZES:
            for seed in (1, 2):
                matrices = some_matrices("xy", size, seed)
                values = run_steps(program, size, matrices)
                expected = expected_values(size, table(matrices["x"]), table(matrices["y"]))
                self.assertEqual([plain(value) for value in values], expected)
                for kind, value in zip(program.kinds, values):
                    self.assertIsInstance(value, Matrix if kind == "matrix" else Ratio)
                    if kind == "matrix":
                        self.assertEqual(value.size, size)

    def test_result(self):
        for result in range(len(STEPS)):
            matrices = some_matrices("xy", 2)
            program = Program("xy", STEPS, result)
            self.assertEqual(run_program(program, 2, matrices), run_steps(program, 2, matrices)[result])

    def test_power_0_of_zero(self):
        program = Program("x", [("letter", "x"), ("power", 0, 0), ("const", Ratio(0)), ("power", 2, 0)], 1)
        for size in SIZES:
            values = run_steps(program, size, {"x": Matrix.zero(size)})
            self.assertEqual(table(values[1]), unit_table(size))
            self.assertEqual(str(values[3]), "1")

    def test_no_letters(self):
        program = Program("", [("one",), ("trace", 0), ("times", 1, 1)], 2)
        for size in SIZES:
            self.assertEqual(str(run_program(program, size, {})), str(size * size))

    def test_further_letters_have_no_effect(self):
        program = Program("x", [("letter", "x"), ("times", 0, 0)], 1)
        matrices = {"a": Matrix([[1]]), "x": matrix_of("1 2; 3 4"), "z": Matrix.one(3)}
        self.assertEqual(table(run_program(program, 2, matrices)), [[7, 10], [15, 22]])

    def test_arguments_stay(self):
        matrices = {"x": matrix_of("1 2; 3 4"), "y": matrix_of("0 1; 0 0")}
        program = Program("xy", STEPS, 0)
        values = run_steps(program, 2, matrices)
        values.clear()
        self.assertEqual(len(run_steps(program, 2, matrices)), len(STEPS))
        self.assertEqual(program.steps, tuple(STEPS))
        self.assertEqual(list(matrices), ["x", "y"])
        self.assertEqual(table(matrices["x"]), [[1, 2], [3, 4]])


class ErrorTest(unittest.TestCase):
    def assert_both_raise(self, error, program, size, matrices):
        for action in (run_steps, run_program):
            with self.assertRaises(error):
                action(program, size, matrices)

    def test_wrong_size(self):
        program = Program("x", [("letter", "x")], 0)
        for size in (0, -1, 4, 7):
            self.assert_both_raise(WrongSize, program, size, {"x": Matrix.one(2)})
            # The size is checked before the letters.
            self.assert_both_raise(WrongSize, program, size, {})
            self.assert_both_raise(WrongSize, Program("", [("one",)], 0), size, {})

    def test_missing_matrix(self):
        for letters, given in (("x", ""), ("xy", "x"), ("xy", "y"), ("abc", "ac")):
            program = Program(letters, [("letter", letter) for letter in letters], 0)
            self.assert_both_raise(MissingMatrix, program, 2, some_matrices(given, 2))

    def test_matrix_of_another_size(self):
        program = Program("xy", [("letter", "x"), ("letter", "y")], 0)
        for size in SIZES:
            for other in SIZES:
                if other != size:
                    matrices = {"x": Matrix.one(size), "y": Matrix.one(other)}
                    self.assert_both_raise(WrongSize, program, size, matrices)
                    self.assert_both_raise(WrongSize, program, other, matrices)

    def test_letters_that_no_step_uses(self):
        program = Program("xyz", [("letter", "x")], 0)
        self.assert_both_raise(MissingMatrix, program, 1, some_matrices("xz", 1))
        self.assert_both_raise(WrongSize, program, 1, dict(some_matrices("xz", 1), y=Matrix.one(2)))
        self.assertEqual(run_program(program, 1, some_matrices("xyz", 1)), some_matrices("xyz", 1)["x"])

    def test_the_first_letter_with_a_fault_decides(self):
        steps = [("letter", "x"), ("letter", "y")]
        matrices = {"x": Matrix.one(3)}
        self.assert_both_raise(WrongSize, Program("xy", steps, 0), 2, matrices)
        self.assert_both_raise(MissingMatrix, Program("yx", steps, 0), 2, matrices)


class LawTest(unittest.TestCase):
    """Points 36 and 37."""

    def test_change_of_basis(self):
        for u, v in (("3", "1/3"), ("1 2; 1 3", "3 -2; -1 1"), ("1 1 0; 0 1 1; 0 0 2", "1 -1 1/2; 0 1 -1/2; 0 0 1/2")):
            u, v = matrix_of(u), matrix_of(v)
            size = u.size
            self.assertEqual(u * v, Matrix.one(size))
            matrices = some_matrices("xy", size)
            moved = {letter: u * matrix * v for letter, matrix in matrices.items()}
            program = Program("xy", STEPS, 0)
            for first, second in zip(run_steps(program, size, matrices), run_steps(program, size, moved)):
                self.assertEqual(second, u * first * v if isinstance(first, Matrix) else first)

    def test_padding(self):
        steps = [("letter", "x"), ("letter", "y"), ("times", 0, 1), ("sum", 2, 0), ("power", 3, 2), ("trace", 4),
                 ("times", 5, 1), ("scale", Ratio(1, 2), 6), ("diff", 7, 0), ("const", Ratio(3)), ("sum", 9, 5)]
        program = Program("xy", steps, 0)
        for size in (1, 2):
            for greater in range(size + 1, 4):
                matrices = some_matrices("xy", size)
                padded = {letter: matrix.padded(greater) for letter, matrix in matrices.items()}
                for first, second in zip(run_steps(program, size, matrices), run_steps(program, greater, padded)):
                    self.assertEqual(second, first.padded(greater) if isinstance(first, Matrix) else first)


if __name__ == "__main__":
    unittest.main()
