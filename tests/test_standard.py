import unittest
from itertools import combinations, permutations

from helpers import (NO_SIZES, SIZES, matrix_of, poly, some_matrices, table, table_plus, table_scaled, table_times,
                     unit_table)

from tablelaws.errors import TooLarge, WrongSize
from tablelaws.evaluating import value_at
from tablelaws.matrices import Matrix
from tablelaws.normalforms import is_zero
from tablelaws.notation import show_poly
from tablelaws.polys import Poly
from tablelaws.ratios import Ratio
from tablelaws.standard import split_standard, standard, standard_value

STRINGS = ("", "x", "xy", "yx", "xx", "xyz", "zxy", "xyx", "abcd", "abca", "dbca", "abcde", "edcba", "abcab", "aaaaa")


def sign_of(order):
    return (-1) ** sum(a > b for a, b in combinations(order, 2))


def orders(count):
    return [(order, sign_of(order)) for order in permutations(range(count))]


def value_of(size, matrices):
    """The standard value by point 117, as a list of lists of Fraction objects."""
    total = table_scaled(0, unit_table(size))
    tables = [table(matrix) for matrix in matrices]
    for order, sign in orders(len(matrices)):
        rows = table_scaled(sign, unit_table(size))
        for k in order:
            rows = table_times(rows, tables[k])
        total = table_plus(total, rows)
    return total


class StandardTest(unittest.TestCase):
    def test_examples(self):
        self.assertEqual(show_poly(standard("xy")), "matrix | 1 - xy | -1 - yx")
        self.assertEqual(show_poly(standard("")), "matrix | 1 - -")
        self.assertEqual(show_poly(standard("xx")), "matrix")

    def test_by_hand(self):
        self.assertEqual(show_poly(standard("x")), "matrix | 1 - x")
        self.assertEqual(show_poly(standard("yx")), "matrix | -1 - xy | 1 - yx")
        self.assertEqual(show_poly(standard("xyz")),
                         "matrix | 1 - xyz | -1 - xzy | -1 - yxz | 1 - yzx | 1 - zxy | -1 - zyx")

    def test_the_sum_over_all_orders(self):
        for letters in STRINGS:
            expected = Poly("matrix", [([], "".join(letters[k] for k in order), Ratio(sign))
                                       for order, sign in orders(len(letters))])
            found = standard(letters)
            self.assertIsInstance(found, Poly)
            self.assertEqual(found, expected)
            self.assertEqual(found.kind, "matrix")

    def test_repeated_letters(self):
        for letters in ("xx", "xyx", "abca", "abcab", "aaaaa"):
            self.assertEqual(standard(letters), poly("matrix"))

    def test_5_and_6_letters(self):
        self.assertEqual(len(standard("abcde")), 120)
        for letters in ("abcdef", "aaaaaa", "abcdefgh"):
            with self.assertRaises(TooLarge):
                standard(letters)

    def test_the_law_of_matrices(self):
        self.assertEqual([is_zero(size, standard("wxyz")) for size in SIZES], [True, True, False])
        self.assertEqual([is_zero(size, standard("xy")) for size in SIZES], [True, False, False])
        self.assertEqual([is_zero(size, standard("xyz")) for size in SIZES], [True, False, False])


class SplitTest(unittest.TestCase):
    def test_example(self):
        self.assertEqual(split_standard("xyz", 2), [(1, "xy", "z"), (-1, "xz", "y"), (1, "yz", "x")])

    def test_by_hand(self):
        self.assertEqual(split_standard("xyz", 1), [(1, "x", "yz"), (-1, "y", "xz"), (1, "z", "xy")])
        self.assertEqual(split_standard("xyz", 0), [(1, "", "xyz")])
        self.assertEqual(split_standard("xyz", 3), [(1, "xyz", "")])
        self.assertEqual(split_standard("", 0), [(1, "", "")])
        self.assertEqual(split_standard("xx", 1), [(1, "x", "x"), (-1, "x", "x")])
        self.assertEqual(split_standard("zay", 2), [(1, "za", "y"), (-1, "zy", "a"), (1, "ay", "z")])
        self.assertEqual([sign for sign, _, _ in split_standard("wxyz", 2)], [1, -1, 1, 1, -1, 1])

    def test_all_ways(self):
        for letters in STRINGS:
            for count in range(len(letters) + 1):
                expected = []
                for chosen in combinations(range(len(letters)), count):
                    others = tuple(k for k in range(len(letters)) if k not in chosen)
                    expected.append((sign_of(chosen + others), "".join(letters[k] for k in chosen),
                                     "".join(letters[k] for k in others)))
                found = split_standard(letters, count)
                self.assertEqual(found, expected)
                self.assertIsInstance(found, list)
                self.assertTrue(all(isinstance(part, tuple) for part in found))

    def test_the_sum_of_the_products(self):
        for letters in STRINGS:
            for count in range(len(letters) + 1):
                total = poly("matrix")
                for sign, chosen, others in split_standard(letters, count):
                    total = total + (standard(chosen) * standard(others)).scaled(Ratio(sign))
                self.assertEqual(total, standard(letters))

    def test_counts_out_of_range(self):
        for letters in STRINGS:
            for count in (-1, -5, len(letters) + 1, len(letters) + 9):
                self.assertEqual(split_standard(letters, count), [])

    def test_too_large_whatever_the_count_is(self):
        for letters in ("abcdef", "aaaaaa", "abcdefg"):
            for count in (-1, 0, 2, 6, 7, 99):
                with self.assertRaises(TooLarge):
                    split_standard(letters, count)

    def test_results_are_new(self):
        split_standard("xyz", 2).clear()
        self.assertEqual(len(split_standard("xyz", 2)), 3)


class ValueTest(unittest.TestCase):
    def test_by_hand(self):
        first, second = matrix_of("1 2; 3 4"), matrix_of("0 1; 0 0")
        self.assertEqual(standard_value(2, [first, second]), matrix_of("-3 -3; 0 3"))
        self.assertEqual(standard_value(2, [second, first]), matrix_of("3 3; 0 -3"))
        self.assertEqual(standard_value(2, [first]), first)
        self.assertEqual(standard_value(1, [matrix_of("5"), matrix_of("7")]), Matrix.zero(1))

    def test_the_empty_list(self):
        for size in SIZES:
            self.assertEqual(standard_value(size, []), Matrix.one(size))

    def test_the_sum_over_all_orders(self):
        for size in SIZES:
            for count in range(6):
                matrices = list(some_matrices("abcdef"[:count], size, seed=count).values())
                found = standard_value(size, matrices)
                self.assertIsInstance(found, Matrix)
                self.assertEqual(table(found), value_of(size, matrices))
        matrices = list(some_matrices("abcdef", 3).values())
        self.assertEqual(table(standard_value(3, matrices)), table_scaled(0, unit_table(3)))
        matrices = [Matrix.unit(3, *arrow) for arrow in ((1, 2), (2, 3), (3, 1), (1, 1), (1, 3), (3, 3))]
        self.assertEqual(table(standard_value(3, matrices)), value_of(3, matrices))

    def test_the_same_matrix_several_times(self):
        first, second = some_matrices("ab", 2).values()
        self.assertEqual(standard_value(2, [first, first]), Matrix.zero(2))
        self.assertEqual(standard_value(2, [first, second, first]), Matrix.zero(2))
        self.assertEqual(standard_value(2, [first, second, Matrix.one(2)]), standard_value(2, [first, second]))

    def test_the_value_of_a_standard_polynomial(self):
        for size in SIZES:
            matrices = some_matrices("abcde", size, seed=3)
            for letters in STRINGS:
                if set(letters) <= set("abcde"):
                    found = standard_value(size, [matrices[letter] for letter in letters])
                    self.assertEqual(found, value_at(standard(letters), size, matrices))

    def test_the_list_stays(self):
        matrices = list(some_matrices("abc", 2).values())
        standard_value(2, matrices)
        self.assertEqual(matrices, list(some_matrices("abc", 2).values()))

    def test_errors(self):
        for size in NO_SIZES:
            for matrices in ([], [Matrix.one(1)], [Matrix.one(2), Matrix.one(3)]):
                with self.assertRaises(WrongSize):
                    standard_value(size, matrices)
        for size in SIZES:
            for other in SIZES:
                if other != size:
                    for matrices in ([Matrix.one(other)], [Matrix.one(size), Matrix.one(other)],
                                     [Matrix.one(other), Matrix.one(size)], [Matrix.zero(other)] * 6):
                        with self.assertRaises(WrongSize):
                            standard_value(size, matrices)


if __name__ == "__main__":
    unittest.main()
