import unittest
from fractions import Fraction
from inspect import isgeneratorfunction
from itertools import combinations, permutations, product

from helpers import (NO_SIZES, SIZES, fraction, matrix_of, perm_sum, plain, poly, poly_value, ratio, some_matrices,
                     table, table_plus, table_scaled, unit_table)

from tablelaws.cells import cell_of, choices_of, chosen_sums, linear_value, moved_row, place_matrices
from tablelaws.errors import WrongSize
from tablelaws.linearizing import linearize, places_of
from tablelaws.matrices import Matrix
from tablelaws.parts import part_of
from tablelaws.perms import compose
from tablelaws.permsums import PermSum
from tablelaws.ratios import Ratio

NUMBER = poly("number", ("1", ["xxy"], ""), ("-1/2", ["x", "xy"], ""), ("3", ["xy"], ""), ("1", ["x", "y"], ""),
              ("7", [], ""), ("2", ["xx"], ""), ("-1", ["x", "x"], ""), ("5", ["xyz"], ""), ("1", ["xx", "yy"], ""))
MATRIX = poly("matrix", ("1", [], "xyx"), ("-1/2", ["x"], "xy"), ("3", [], "xy"), ("1", ["x"], "y"), ("2", [], "yx"),
              ("7", [], ""), ("2", [], "xx"), ("-1", ["xx"], ""), ("5", ["y"], "zx"), ("4", [], "x"), ("1", ["x"], ""))


def places_matrices(content, size, more=0):
    """A drawn matrix for each place of a content and for further places."""
    found = some_matrices(range(len(content) + more), size, seed=len(content) + size)
    return list(found.values())


class MoveTest(unittest.TestCase):
    def test_by_hand(self):
        self.assertEqual(moved_row((2, 3, 1), (7, 8, 9)), (9, 7, 8))
        self.assertEqual(moved_row((1, 2), (5, 4)), (5, 4))
        self.assertEqual(moved_row((), ()), ())
        self.assertIsInstance(moved_row((2, 1), (1, 1)), tuple)

    def test_each_place(self):
        for perm in permutations((1, 2, 3, 4)):
            moved = moved_row(perm, (10, 20, 30, 40))
            for place in range(1, 5):
                self.assertEqual(moved[perm[place - 1] - 1], 10 * place)

    def test_products(self):
        row = (5, 6, 7, 8)
        for first in permutations((1, 2, 3, 4)):
            for second in permutations((1, 2, 3, 4)):
                self.assertEqual(moved_row(compose(first, second), row), moved_row(first, moved_row(second, row)))


class CellTest(unittest.TestCase):
    def test_by_hand(self):
        permsum = perm_sum(3, p123="1", p231="1/2", p213="-3")
        self.assertEqual(str(cell_of(permsum, (1, 2, 3), (1, 2, 3))), "1")
        self.assertEqual(str(cell_of(permsum, (1, 2, 3), (3, 1, 2))), "1/2")
        self.assertEqual(str(cell_of(permsum, (1, 2, 3), (2, 3, 1))), "0")
        self.assertEqual(str(cell_of(permsum, (1, 1, 2), (1, 1, 2))), "-2")
        self.assertEqual(str(cell_of(permsum, (1, 1, 1), (1, 1, 1))), "-3/2")

    def test_cells_that_are_zero(self):
        permsum = perm_sum(2, p12="1", p21="-1")
        self.assertEqual(cell_of(permsum, (1, 1), (1, 1)), Ratio(0))
        self.assertEqual(cell_of(permsum, (1, 1), (1, 2)), Ratio(0))
        self.assertEqual(cell_of(PermSum(2, []), (1, 1), (1, 1)), Ratio(0))
        self.assertEqual(cell_of(permsum, (1, 2), (2, 1)), Ratio(-1))

    def test_0_places(self):
        self.assertEqual(cell_of(perm_sum(0, p="5/2"), (), ()), ratio("5/2"))
        self.assertEqual(cell_of(PermSum(0, []), (), ()), Ratio(0))

    def test_all_cells(self):
        permsum = PermSum(4, [(perm, Ratio(number, 3)) for number, perm in
                              enumerate(permutations((1, 2, 3, 4)), start=-5)])
        for columns in product((1, 2), repeat=4):
            for rows in product((1, 2), repeat=4):
                expected = sum((fraction(permsum[perm]) for perm in permsum
                                if all(rows[perm[j] - 1] == columns[j] for j in range(4))), Fraction(0))
                self.assertEqual(fraction(cell_of(permsum, columns, rows)), expected)


class PlaceMatricesTest(unittest.TestCase):
    def test_by_hand(self):
        found = place_matrices(2, (1, 2, 2), (2, 2, 1))
        self.assertIsInstance(found, list)
        self.assertEqual(found, [matrix_of("0 0; 1 0"), matrix_of("0 0; 0 1"), matrix_of("0 1; 0 0")])
        self.assertEqual(place_matrices(3, (3,), (1,)), [matrix_of("0 0 1; 0 0 0; 0 0 0")])
        self.assertEqual(place_matrices(1, (1, 1), (1, 1)), [Matrix.one(1), Matrix.one(1)])

    def test_0_places(self):
        for size in SIZES:
            self.assertEqual(place_matrices(size, (), ()), [])

    def test_all_entries(self):
        for size in SIZES:
            entries = list(product(range(1, size + 1), repeat=2))
            rows, columns = zip(*entries)
            found = place_matrices(size, columns, rows)
            for (row, column), matrix in zip(entries, found):
                self.assertEqual(table(matrix), [[int((i, j) == (row, column)) for j in range(1, size + 1)]
                                                 for i in range(1, size + 1)])

    def test_wrong_size(self):
        for size in NO_SIZES:
            for columns, rows in (((), ()), ((1,), (1,)), ((0,), (9,))):
                with self.assertRaises(WrongSize):
                    place_matrices(size, columns, rows)

    def test_rows_and_columns_outside(self):
        for size in SIZES:
            for wrong in (0, -1, size + 1, 99):
                for columns, rows in (((wrong,), (1,)), ((1,), (wrong,)), ((1, wrong), (1, 1)), ((1, 1), (wrong, 1))):
                    with self.assertRaises(WrongSize):
                        place_matrices(size, columns, rows)


class ChoicesTest(unittest.TestCase):
    def expected(self, content):
        places = range(1, len(content) + 1)
        return sorted(chosen for length in range(len(content) + 1) for chosen in combinations(places, length)
                      if all(any(content[place - 1] == letter for place in chosen) for letter in content))

    def test_by_hand(self):
        self.assertEqual(list(choices_of("")), [()])
        self.assertEqual(list(choices_of("x")), [(1,)])
        self.assertEqual(list(choices_of("xy")), [(1, 2)])
        self.assertEqual(list(choices_of("xx")), [(1,), (1, 2), (2,)])
        self.assertEqual(list(choices_of("xxy")), [(1, 2, 3), (1, 3), (2, 3)])
        self.assertTrue(isgeneratorfunction(choices_of))

    def test_contents_with_repeated_letters(self):
        for content in ("xxx", "xxyy", "xyyz", "aabbcc", "xxxxxx", "abcdef", "xxxxyy", "abbccc"):
            self.assertEqual(list(choices_of(content)), self.expected(content))

    def test_chosen_sums_by_hand(self):
        matrices = [matrix_of("1 2; 3 4"), matrix_of("0 1; 1 0"), matrix_of("5 0; 0 5")]
        found = chosen_sums("xxy", matrices, (1, 2, 3))
        self.assertEqual(list(found), ["x", "y"])
        self.assertEqual([table(found["x"]), table(found["y"])], [[[1, 3], [4, 4]], [[5, 0], [0, 5]]])
        self.assertEqual(chosen_sums("xxy", matrices, (2, 3)), {"x": matrices[1], "y": matrices[2]})
        self.assertEqual(chosen_sums("", matrices, ()), {})
        self.assertEqual(matrices, [matrix_of("1 2; 3 4"), matrix_of("0 1; 1 0"), matrix_of("5 0; 0 5")])

    def test_chosen_sums(self):
        for size in SIZES:
            for content in ("xxyyz", "xxx", "abcd"):
                matrices = places_matrices(content, size)
                for chosen in choices_of(content):
                    found = chosen_sums(content, matrices, chosen)
                    self.assertEqual(list(found), sorted(set(content)))
                    for letter, total in found.items():
                        rows = table_scaled(0, unit_table(size))
                        for place in chosen:
                            if content[place - 1] == letter:
                                rows = table_plus(rows, table(matrices[place - 1]))
                        self.assertEqual(table(total), rows)

    def test_further_matrices(self):
        matrices = [Matrix.one(2), matrix_of("1 2; 3 4")]
        for more in ([Matrix.one(2)], [Matrix.one(3), Matrix.one(1)]):
            self.assertEqual(chosen_sums("xx", matrices + more, (1, 2)), {"x": matrix_of("2 2; 3 5")})


class LinearValueTest(unittest.TestCase):
    def expected(self, value, content, size, matrices):
        """The sum of point 78, computed with Fraction objects."""
        part = part_of(value, content)
        number, rows = Fraction(0), table_scaled(0, unit_table(size))
        for chosen in choices_of(content):
            factor = (-1) ** (len(content) - len(chosen))
            found = poly_value(part, size, chosen_sums(content, matrices, chosen))
            if value.kind == "number":
                number += factor * found
            else:
                rows = table_plus(rows, table_scaled(factor, found))
        return number if value.kind == "number" else rows

    def test_both_kinds_at_each_size(self):
        for size in SIZES:
            for content in ("", "x", "xx", "xy", "xxy", "xyz", "xxyy"):
                matrices = places_matrices(content, size)
                for value in (NUMBER, MATRIX):
                    found = linear_value(value, content, size, matrices)
                    self.assertIsInstance(found, Ratio if value.kind == "number" else Matrix)
                    self.assertEqual(plain(found), self.expected(value, content, size, matrices))

    def test_by_hand(self):
        first, second = matrix_of("1 2; 3 4"), matrix_of("0 1; 1 0")
        squares = poly("matrix", ("1", [], "xx"))
        self.assertEqual(linear_value(squares, "xx", 2, [first, second]), first * second + second * first)
        self.assertEqual(linear_value(poly("matrix", ("1", [], "yx")), "xy", 2, [first, second]), second * first)
        self.assertEqual(linear_value(squares.traced(2), "xx", 2, [first, second]),
                         (first * second).trace() + (second * first).trace())
        self.assertEqual(linear_value(poly("number", ("3/2", [], "")), "", 2, []), ratio("3/2"))

    def test_no_term_of_the_content(self):
        for size in SIZES:
            matrices = places_matrices("ab", size)
            self.assertEqual(linear_value(NUMBER, "ab", size, matrices), Ratio(0))
            self.assertEqual(linear_value(MATRIX, "ab", size, matrices), Matrix.zero(size))
            self.assertEqual(linear_value(poly("matrix"), "", size, []), Matrix.zero(size))
            self.assertEqual(linear_value(poly("number"), "", size, []), Ratio(0))

    def test_values_at_place_matrices(self):
        for size in SIZES:
            for content in ("", "x", "xy", "xx", "xxy"):
                for value in (NUMBER, MATRIX):
                    permsum = linearize(value, content)
                    rows_and_columns = list(product(range(1, size + 1), repeat=places_of(content, value.kind)))
                    for columns in rows_and_columns[::5]:
                        for rows in rows_and_columns[::3]:
                            found = linear_value(value, content, size, place_matrices(size, columns, rows))
                            cell = cell_of(permsum, columns, rows)
                            self.assertEqual(found if value.kind == "number" else found[columns[-1], rows[-1]], cell)

    def test_all_cells_of_size_2(self):
        for content in ("xy", "xx"):
            permsum = linearize(MATRIX, content)
            seen = 0
            for columns in product((1, 2), repeat=3):
                for rows in product((1, 2), repeat=3):
                    found = linear_value(MATRIX, content, 2, place_matrices(2, columns, rows))
                    self.assertEqual(found[columns[-1], rows[-1]], cell_of(permsum, columns, rows))
                    seen += bool(cell_of(permsum, columns, rows))
            self.assertGreater(seen, 5)

    def test_further_matrices_have_no_effect(self):
        for size in SIZES:
            for value in (NUMBER, MATRIX):
                matrices = places_matrices("xxy", size)
                expected = linear_value(value, "xxy", size, matrices)
                for more in ([Matrix.one(1)], [Matrix.one(2)], [Matrix.zero(3), Matrix.one(1)]):
                    self.assertEqual(linear_value(value, "xxy", size, matrices + more), expected)
                    self.assertEqual(linear_value(value, "", size, more), linear_value(value, "", size, []))

    def test_wrong_size(self):
        for size in NO_SIZES:
            for value in (NUMBER, MATRIX, poly("number"), poly("matrix")):
                for content, matrices in (("", []), ("x", [Matrix.one(2)]), ("ab", [Matrix.one(1), Matrix.one(2)])):
                    with self.assertRaises(WrongSize):
                        linear_value(value, content, size, matrices)

    def test_matrices_of_another_size(self):
        for size in SIZES:
            for other in SIZES:
                if other != size:
                    for value in (NUMBER, MATRIX, poly("number"), poly("matrix")):
                        for content in ("xy", "ab", "xx"):
                            for sizes in ((other, size), (size, other), (other, other)):
                                with self.assertRaises(WrongSize):
                                    linear_value(value, content, size, [Matrix.one(number) for number in sizes])


if __name__ == "__main__":
    unittest.main()
