import unittest
from itertools import product

from helpers import NO_SIZES, SIZES, table

from tablelaws.errors import TooLarge, WrongKind, WrongSize
from tablelaws.grids import all_matrices, first_difference
from tablelaws.matrices import Matrix
from tablelaws.programs import Program
from tablelaws.ratios import Ratio
from tablelaws.running import run_program

SQUARE = Program("x", [("letter", "x"), ("times", 0, 0)], 1)
SELF = Program("x", [("letter", "x")], 0)
XY = Program("xy", [("letter", "x"), ("letter", "y"), ("times", 0, 1)], 2)
YX = Program("yx", [("letter", "x"), ("letter", "y"), ("times", 1, 0)], 2)
ONE = Program("", [("one",)], 0)
TWO = Program("", [("one",), ("sum", 0, 0)], 1)
NUMBER = Program("x", [("letter", "x"), ("trace", 0)], 1)


def entries_of(matrix):
    return [entry for row in table(matrix) for entry in row]


def letters_program(letters):
    """The product of all letters, whose traces are not the same for another order of the letters."""
    steps = [("letter", letter) for letter in letters] + [("one",)]
    for place in range(len(letters)):
        steps.append(("times", len(steps) - 1, place))
    return Program(letters, steps, len(steps) - 1)


class GridTest(unittest.TestCase):
    def assert_grid(self, size, entries):
        found = list(all_matrices(size, entries))
        self.assertTrue(all(isinstance(matrix, Matrix) and matrix.size == size for matrix in found))
        self.assertEqual([entries_of(matrix) for matrix in found],
                         [list(row) for row in product(entries, repeat=size * size)])
        return found

    def test_example(self):
        self.assertEqual([table(matrix) for matrix in all_matrices(1, [5, 0])], [[[5]], [[0]]])

    def test_size_2_by_hand(self):
        found = [table(matrix) for matrix in all_matrices(2, [1, -3])]
        self.assertEqual(found[:4], [[[1, 1], [1, 1]], [[1, 1], [1, -3]], [[1, 1], [-3, 1]], [[1, 1], [-3, -3]]])
        self.assertEqual(found[8], [[-3, 1], [1, 1]])
        self.assertEqual(len(found), 16)

    def test_each_size(self):
        self.assertEqual(len(self.assert_grid(1, [4, 3, 2, 1])), 4)
        self.assertEqual(len(self.assert_grid(2, [0, 7, -2])), 81)
        self.assertEqual(len(self.assert_grid(2, [3, 1, 2, 0])), 256)
        self.assertEqual(len(self.assert_grid(3, [1, 0])), 512)

    def test_one_entry(self):
        for size in SIZES:
            self.assertEqual(len(self.assert_grid(size, [9])), 1)

    def test_equal_items(self):
        self.assertEqual(len(self.assert_grid(1, [2, 2])), 2)
        self.assertEqual(len(self.assert_grid(2, [0, 1, 0])), 81)
        self.assertEqual(len(self.assert_grid(1, [1, 1, 1, 1])), 4)

    def test_wrong_size(self):
        for size in NO_SIZES:
            for entries in ([1], [0, 1]):
                with self.assertRaises(WrongSize):
                    next(iter(all_matrices(size, entries)))

    def test_the_list_stays(self):
        entries = [2, 0, 1]
        list(all_matrices(2, entries))
        self.assertEqual(entries, [2, 0, 1])


class DifferenceTest(unittest.TestCase):
    def expected(self, first, second, size, entries):
        letters = sorted(set(first.letters) | set(second.letters))
        grid = [Matrix([row[k:k + size] for k in range(0, size * size, size)])
                for row in product(entries, repeat=size * size)]
        for chosen in product(grid, repeat=len(letters)):
            matrices = dict(zip(letters, chosen))
            if not run_program(first, size, matrices) == run_program(second, size, matrices):
                return matrices
        return None

    def assert_first(self, first, second, size, entries):
        expected = self.expected(first, second, size, entries)
        found = first_difference(first, second, size, entries)
        self.assertEqual(found, expected)
        if found is not None:
            self.assertIsInstance(found, dict)
            self.assertEqual(list(found), sorted(set(first.letters + second.letters)))
        return found

    def test_example(self):
        self.assertEqual(first_difference(SQUARE, SELF, 1, [0, 1, 2])["x"][1, 1].num, 2)

    def test_none(self):
        self.assertIsNone(self.assert_first(SQUARE, SELF, 1, [0, 1]))
        self.assertIsNone(self.assert_first(XY, YX, 1, [0, 1, 2, 3]))
        self.assertIsNone(self.assert_first(SELF, SELF, 2, [0, 1, 2]))

    def test_the_first_of_several_differences(self):
        found = self.assert_first(SQUARE, SELF, 1, [1, 5, 4, 2])
        self.assertEqual(table(found["x"]), [[5]])
        found = self.assert_first(XY, YX, 2, [0, 1])
        self.assertEqual((table(found["x"]), table(found["y"])), ([[0, 0], [0, 1]], [[0, 0], [1, 0]]))
        self.assert_first(XY, YX, 2, [1, 0])
        self.assert_first(SQUARE, SELF, 2, [1, 0, -1])

    def test_size_3(self):
        self.assertIsNotNone(self.assert_first(SQUARE, SELF, 3, [0, 1]))
        found = first_difference(XY, YX, 3, [2])
        self.assertIsNone(found)
        other = Program("xy", [("letter", "x"), ("letter", "y"), ("sum", 0, 1)], 2)
        self.assertEqual(table(first_difference(XY, other, 3, [2])["y"]), [[2] * 3] * 3)

    def test_the_last_letter_changes_fastest(self):
        first = Program("xy", [("letter", "x"), ("letter", "y"), ("times", 0, 1)], 2)
        second = Program("xy", [("letter", "x"), ("letter", "y"), ("sum", 0, 1)], 2)
        found = self.assert_first(first, second, 1, [0, 2, 5])
        self.assertEqual([table(found["x"]), table(found["y"])], [[[0]], [[2]]])

    def test_letters_of_only_one_program(self):
        y = Program("y", [("letter", "y")], 0)
        for first, second in ((SELF, y), (y, SELF), (ONE, y), (y, ONE), (ONE, SELF), (XY, y), (y, YX)):
            for entries in ([0, 1], [1, 0], [2, 1, 0]):
                self.assert_first(first, second, 1, entries)
            self.assert_first(first, second, 2, [1, 0])
        self.assertEqual(list(first_difference(Program("z", [("letter", "z")], 0), SELF, 1, [0, 1])), ["x", "z"])

    def test_letters_that_no_step_uses(self):
        wide = Program("zxa", [("letter", "x")], 0)
        found = self.assert_first(wide, SQUARE, 1, [1, 3, 0])
        self.assertEqual({letter: table(matrix) for letter, matrix in found.items()},
                         {"a": [[1]], "x": [[3]], "z": [[1]]})
        self.assertEqual(list(found), ["a", "x", "z"])
        self.assert_first(SQUARE, wide, 1, [0, -1])
        # There is a difference without letters that count, too.
        unused = Program("ba", [("one",)], 0)
        self.assertEqual(list(self.assert_first(unused, TWO, 1, [4, 5])), ["a", "b"])
        self.assertIsNone(self.assert_first(unused, ONE, 2, [1, 0]))

    def test_no_letters(self):
        for size in SIZES:
            self.assertEqual(first_difference(ONE, TWO, size, [1]), {})
            self.assertIsNone(first_difference(ONE, ONE, size, [1]))
            # There is one combination, whatever the grid is.
            self.assertEqual(first_difference(ONE, TWO, size, [0, 1, 2, 3]), {})
            self.assertIsNone(first_difference(ONE, ONE, size, [0, 1, 2, 3]))
        trace = Program("", [("one",), ("trace", 0)], 1)
        two = Program("", [("const", Ratio(2))], 0)
        self.assertIsNone(first_difference(trace, two, 2, [1]))
        self.assertEqual(first_difference(trace, two, 3, [1]), {})

    def test_numbers(self):
        total = Program("x", [("letter", "x"), ("trace", 0), ("times", 1, 1)], 2)
        self.assert_first(NUMBER, total, 2, [0, 1, -1])
        self.assert_first(NUMBER, total, 1, [0, 1, 2])

    def test_arguments_stay_and_results_are_new(self):
        entries = [0, 1, 2]
        found = first_difference(SQUARE, SELF, 1, entries)
        found.clear()
        self.assertEqual(entries, [0, 1, 2])
        self.assertEqual(list(first_difference(SQUARE, SELF, 1, entries)), ["x"])


class ErrorTest(unittest.TestCase):
    def assert_error(self, error, first, second, size, entries):
        with self.assertRaises(error) as caught:
            first_difference(first, second, size, entries)
        self.assertIs(caught.exception.__class__, error)

    def test_wrong_size(self):
        for size in NO_SIZES:
            self.assert_error(WrongSize, SQUARE, SELF, size, [1])
            self.assert_error(WrongSize, ONE, ONE, size, [1])
            # The size comes before the kinds and the number of combinations.
            self.assert_error(WrongSize, NUMBER, SELF, size, [1])
            self.assert_error(WrongSize, NUMBER, SELF, size, [0, 1, 2, 3])
            self.assert_error(WrongSize, XY, YX, size, [0, 1, 2, 3])

    def test_wrong_kind(self):
        for size in SIZES:
            self.assert_error(WrongKind, NUMBER, SELF, size, [1])
            self.assert_error(WrongKind, SELF, NUMBER, size, [1])
        self.assert_error(WrongKind, ONE, Program("", [("const", Ratio(1))], 0), 1, [1])
        # The kinds come before the number of combinations.
        self.assert_error(WrongKind, NUMBER, XY, 3, [0, 1, 2, 3])

    def test_1000_combinations(self):
        three, ten = letters_program("abc"), list(range(10))
        self.assertIsNone(first_difference(three, three, 1, ten))
        self.assertIsNone(first_difference(SELF, SELF, 1, list(range(1000))))
        self.assert_error(TooLarge, SELF, SELF, 1, list(range(1001)))

    def test_more_than_1000_combinations(self):
        five, six = letters_program("abcde"), letters_program("bcdefa")
        self.assert_error(TooLarge, five, five, 1, [0, 1, 2, 3])
        self.assertIsNone(first_difference(letters_program("abcd"), letters_program("abcd"), 1, [0, 1, 2, 3]))
        self.assert_error(TooLarge, letters_program("abc"), letters_program("cde"), 1, [0, 1, 2, 3])
        self.assertIsNone(first_difference(six, six, 1, [0, 1, 2]))
        self.assert_error(TooLarge, six, letters_program("g"), 1, [0, 1, 2])
        self.assert_error(TooLarge, SELF, SQUARE, 3, [0, 1, 2])
        self.assert_error(TooLarge, XY, YX, 2, [0, 1, 2])
        self.assert_error(TooLarge, XY, YX, 3, [0, 1])

    def test_letters_that_no_step_uses_count(self):
        wide = Program("abcde", [("letter", "a")], 0)
        self.assert_error(TooLarge, wide, SELF, 1, [0, 1, 2, 3])
        self.assert_error(TooLarge, wide, wide, 1, [0, 1, 2, 3])

    def test_equal_items_count(self):
        five = letters_program("abcde")
        self.assert_error(TooLarge, five, five, 1, [1, 1, 1, 1])

    def test_one_entry_gives_one_combination(self):
        first, second = letters_program("abcdef"), letters_program("ghijkl")
        self.assertIsNone(first_difference(first, second, 3, [2]))
        self.assertEqual("".join(first_difference(first, letters_program("ghijk"), 3, [1])), "abcdefghijk")


if __name__ == "__main__":
    unittest.main()
