import unittest
from fractions import Fraction

from helpers import (SIZES, fraction, matrix_of, ratio, some_matrices, table, table_plus, table_scaled, table_times,
                     table_trace, unit_table)

from tablelaws.errors import WrongSize
from tablelaws.matrices import Matrix, check_size
from tablelaws.ratios import Ratio

WRONG = (0, -1, -3, 4, 5, 10 ** 12)


def pairs():
    """Pairs of matrices of each size."""
    return [(some_matrices("ab", size, seed)["a"], some_matrices("ab", size, seed)["b"])
            for size in SIZES for seed in (1, 2, 3)]


class CreationTest(unittest.TestCase):
    def test_check_size(self):
        for size in SIZES:
            self.assertIsNone(check_size(size))
        for size in WRONG:
            with self.assertRaises(WrongSize):
                check_size(size)

    def test_rows_as_lists_and_tuples(self):
        for rows in ([[1, 2], [3, 4]], [(1, 2), (3, 4)], [[1, 2], (3, 4)], [[Ratio(1), 2], (3, Ratio(8, 2))]):
            matrix = Matrix(rows)
            self.assertEqual(matrix.size, 2)
            self.assertEqual(table(matrix), [[1, 2], [3, 4]])

    def test_rows_are_tuples_of_fractions(self):
        matrix = Matrix([[1, Ratio(1, 2)], [0, -3]])
        self.assertIsInstance(matrix.rows, tuple)
        for row in matrix.rows:
            self.assertIsInstance(row, tuple)
            for entry in row:
                self.assertIsInstance(entry, Ratio)
        self.assertEqual([str(entry) for row in matrix.rows for entry in row], ["1", "1/2", "0", "-3"])

    def test_each_size(self):
        for size in SIZES:
            rows = [[size * i + j for j in range(size)] for i in range(size)]
            self.assertEqual((Matrix(rows).size, table(Matrix(rows))), (size, rows))

    def test_wrong_number_of_rows(self):
        for count in (0, 4, 5):
            with self.assertRaises(WrongSize):
                Matrix([[1] * count for _ in range(count)])

    def test_wrong_length_of_a_row(self):
        for rows in ([[]], [[1, 2]], [[1, 2], [3]], [[1], [2]], [[1, 2], [3, 4, 5]], [[1, 2, 3], [1, 2, 3]],
                     [[1, 2, 3], [1, 2, 3], [1, 2]], [(1, 2, 3), (1, 2, 3, 4), (1, 2, 3)], [[1, 2], []]):
            with self.assertRaises(WrongSize, msg=str(rows)):
                Matrix(rows)

    def test_entries(self):
        matrix = Matrix([[1, 2, 3], [4, 5, 6], [7, 8, Ratio(1, 9)]])
        found = [[fraction(matrix[i, j]) for j in (1, 2, 3)] for i in (1, 2, 3)]
        self.assertEqual(found, [[1, 2, 3], [4, 5, 6], [7, 8, Fraction(1, 9)]])
        self.assertIsInstance(matrix[1, 1], Ratio)

    def test_entries_outside_are_not_other_entries(self):
        for at in ((0, 1), (1, 0), (3, 1), (1, 3), (-1, 1)):
            with self.assertRaises(WrongSize):
                Matrix([[1, 2], [3, 4]])[at]

    def test_iteration(self):
        matrix = Matrix([[1, 2], [3, 4]])
        rows = list(matrix)
        self.assertEqual(rows, [(Ratio(1), Ratio(2)), (Ratio(3), Ratio(4))])
        self.assertTrue(all(isinstance(row, tuple) for row in rows))
        self.assertEqual([str(row[0]) for row in matrix], ["1", "3"])

    def test_a_list_that_is_changed_afterwards(self):
        rows = [[1, 2], [3, 4]]
        matrix = Matrix(rows)
        rows[0][0] = 9
        rows[1] = [9, 9]
        rows.append([9, 9])
        self.assertEqual((matrix.size, table(matrix)), (2, [[1, 2], [3, 4]]))
        self.assertEqual(fraction(matrix[1, 1]), 1)


class OperatorTest(unittest.TestCase):
    def test_sum_difference_product_negative(self):
        for a, b in pairs():
            first, second = table(a), table(b)
            self.assertEqual(table(a + b), table_plus(first, second))
            self.assertEqual(table(a - b), table_plus(first, table_scaled(-1, second)))
            self.assertEqual(table(a * b), table_times(first, second))
            self.assertEqual(table(b * a), table_times(second, first))
            self.assertEqual(table(-a), table_scaled(-1, first))

    def test_product_has_an_order(self):
        a, b = matrix_of("0 1; 0 0"), matrix_of("0 0; 1 0")
        self.assertEqual(table(a * b), [[1, 0], [0, 0]])
        self.assertEqual(table(b * a), [[0, 0], [0, 1]])

    def test_sizes_that_differ(self):
        for first in SIZES:
            for second in SIZES:
                if first != second:
                    a, b = Matrix.one(first), Matrix.one(second)
                    for action in (lambda: a + b, lambda: a - b, lambda: a * b):
                        with self.assertRaises(WrongSize):
                            action()
                    self.assertIs(a == b, False)

    def test_equality(self):
        for a, b in pairs():
            self.assertIs(a == b, False)
            self.assertIs(a != b, True)
            self.assertIs(a == Matrix([list(row) for row in a]), True)
        self.assertIs(Matrix([[1, 2], [3, 4]]) == Matrix([[1, 2], [3, 5]]), False)
        self.assertIs(Matrix.zero(2) == Matrix.zero(3), False)

    def test_equality_with_other_objects(self):
        matrix = Matrix([[1]])
        for other in (1, None, Ratio(1), [[1]], ((Ratio(1),),), matrix.rows, "1"):
            self.assertIs(matrix == other, False)
            self.assertIs(other == matrix, False)

    def test_arguments_stay(self):
        a, b = matrix_of("1 2; 3 4"), matrix_of("5 6; 7 8")
        for _ in (a + b, a - b, a * b, -a, a.scaled(Ratio(2)), a.power(2), a.trace(), a.transposed(), a.padded(3)):
            self.assertEqual((table(a), table(b)), ([[1, 2], [3, 4]], [[5, 6], [7, 8]]))


class MethodTest(unittest.TestCase):
    def test_scaled(self):
        for a, _ in pairs():
            for text in ("0", "1", "-2/3", "5"):
                self.assertEqual(table(a.scaled(ratio(text))), table_scaled(Fraction(text), table(a)))

    def test_power(self):
        for a, _ in pairs():
            expected = unit_table(a.size)
            for exponent in range(5):
                self.assertEqual(table(a.power(exponent)), expected)
                expected = table_times(expected, table(a))

    def test_power_with_exponent_0(self):
        for size in SIZES:
            self.assertEqual(table(Matrix.zero(size).power(0)), unit_table(size))
            self.assertEqual(table(Matrix.zero(size).power(1)), table(Matrix.zero(size)))

    def test_power_12(self):
        self.assertEqual(table(matrix_of("1 1; 0 1").power(12)), [[1, 12], [0, 1]])

    def test_trace(self):
        for a, _ in pairs():
            self.assertIsInstance(a.trace(), Ratio)
            self.assertEqual(fraction(a.trace()), table_trace(table(a)))

    def test_transposed(self):
        self.assertEqual(table(matrix_of("5").transposed()), [[5]])
        self.assertEqual(table(matrix_of("1 2; 3 4").transposed()), [[1, 3], [2, 4]])
        self.assertEqual(table(matrix_of("1 2 3; 4 5 6; 7 8 9").transposed()), [[1, 4, 7], [2, 5, 8], [3, 6, 9]])

    def test_padded(self):
        self.assertEqual(table(matrix_of("5").padded(1)), [[5]])
        self.assertEqual(table(matrix_of("5").padded(2)), [[5, 0], [0, 0]])
        self.assertEqual(table(matrix_of("5").padded(3)), [[5, 0, 0], [0, 0, 0], [0, 0, 0]])
        self.assertEqual(table(matrix_of("1 2; 3 4").padded(3)), [[1, 2, 0], [3, 4, 0], [0, 0, 0]])
        self.assertEqual(table(matrix_of("1 2; 3 4").padded(2)), [[1, 2], [3, 4]])
        self.assertEqual(matrix_of("1 2; 3 4").padded(3).size, 3)

    def test_padded_to_a_wrong_size(self):
        for size in SIZES:
            for wrong in list(range(-1, size)) + [4, 5, 10 ** 12]:
                with self.assertRaises(WrongSize):
                    Matrix.one(size).padded(wrong)

    def test_one_zero_unit(self):
        for size in SIZES:
            self.assertEqual(table(Matrix.one(size)), unit_table(size))
            self.assertEqual(table(Matrix.zero(size)), table_scaled(0, unit_table(size)))
            for row in range(1, size + 1):
                for column in range(1, size + 1):
                    expected = table_scaled(0, unit_table(size))
                    expected[row - 1][column - 1] = 1
                    self.assertEqual(table(Matrix.unit(size, row, column)), expected)

    def test_one_zero_unit_of_a_wrong_size(self):
        for size in WRONG:
            for action in (Matrix.one, Matrix.zero, lambda size: Matrix.unit(size, 1, 1)):
                with self.assertRaises(WrongSize):
                    action(size)

    def test_unit_outside_of_the_matrix(self):
        for size in SIZES:
            for row, column in ((0, 1), (1, 0), (size + 1, 1), (1, size + 1), (-1, 1), (1, -1), (9, 9)):
                with self.assertRaises(WrongSize):
                    Matrix.unit(size, row, column)


if __name__ == "__main__":
    unittest.main()
