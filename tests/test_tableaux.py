import unittest
from itertools import permutations

from tablelaws.decreasing import longest_decreasing
from tablelaws.errors import InvalidPermutation
from tablelaws.tableaux import perm_of, tableaux_of

SHAPES = ((), (1,), (2,), (1, 1), (3,), (2, 1), (1, 1, 1), (4,), (3, 1), (2, 2), (2, 1, 1), (1, 1, 1, 1))


def is_increasing(rows):
    lines = list(rows) + [[row[k] for row in rows if k < len(row)] for k in range(len(rows[0]) if rows else 0)]
    return all(a < b for line in lines for a, b in zip(line, line[1:]))


def negated(rows):
    return [[-entry for entry in row] for row in rows]


def fillings(shape):
    """All tableaux of a shape, by trying all orders of the entries."""
    for entries in permutations(range(1, sum(shape) + 1)):
        rows, rest = [], entries
        for length in shape:
            rows.append(rest[:length])
            rest = rest[length:]
        yield tuple(rows)


def inserted(perm):
    """The rows after each insertion by point 63."""
    rows = []
    for value in perm:
        for row in rows:
            less = [k for k, entry in enumerate(row) if entry < value]
            if not less:
                row.append(value)
                break
            row[less[0]], value = value, row[less[0]]
        else:
            rows.append([value])
        yield [list(row) for row in rows]


class TableauxTest(unittest.TestCase):
    def test_by_hand(self):
        self.assertEqual(tableaux_of((3, 1, 4, 2)), (((4, 2), (3, 1)), ((1, 2), (3, 4))))
        self.assertEqual(tableaux_of(()), ((), ()))
        self.assertEqual(tableaux_of((1,)), (((1,),), ((1,),)))
        self.assertEqual(tableaux_of((3, 2, 1)), (((3, 2, 1),), ((1, 2, 3),)))
        self.assertEqual(tableaux_of((1, 2, 3)), (((3,), (2,), (1,)), ((1,), (2,), (3,))))

    def test_insertion(self):
        for places in range(7):
            for perm in permutations(range(1, places + 1)):
                values, cells = tableaux_of(perm)
                steps = [[]] + list(inserted(perm))
                self.assertEqual([list(row) for row in values], steps[-1])
                for place in range(1, places + 1):
                    before, after = steps[place - 1], steps[place]
                    lengths = [len(row) for row in before] + [0]
                    index = [k for k, row in enumerate(after) if len(row) > lengths[k]]
                    self.assertEqual(index, [k for k, row in enumerate(cells) if place in row])
                    self.assertEqual(cells[index[0]][lengths[index[0]]], place)

    def test_both_are_tableaux_of_one_shape(self):
        for places in range(6):
            for perm in permutations(range(1, places + 1)):
                values, cells = tableaux_of(perm)
                self.assertEqual([len(row) for row in values], [len(row) for row in cells])
                for rows in (values, cells):
                    self.assertIsInstance(rows, tuple)
                    self.assertTrue(all(isinstance(row, tuple) for row in rows))
                    self.assertEqual(sorted(entry for row in rows for entry in row), list(range(1, places + 1)))
                self.assertTrue(is_increasing(negated(values)))
                self.assertTrue(is_increasing(cells))
                self.assertEqual(len(values[0]) if values else 0, longest_decreasing(perm))

    def test_each_pair_once(self):
        for places in range(5):
            pairs = [(values, cells) for shape in SHAPES if sum(shape) == places
                     for values in fillings(shape) if is_increasing(negated(values))
                     for cells in fillings(shape) if is_increasing(cells)]
            self.assertEqual(sorted(map(tableaux_of, permutations(range(1, places + 1)))), sorted(pairs))
            for values, cells in pairs:
                self.assertEqual(tableaux_of(perm_of(values, cells)), (values, cells))


class PermTest(unittest.TestCase):
    def test_by_hand(self):
        self.assertEqual(perm_of(((4, 2), (3, 1)), ((1, 2), (3, 4))), (3, 1, 4, 2))
        self.assertEqual(perm_of((), ()), ())
        self.assertEqual(perm_of(((1,),), ((1,),)), (1,))

    def test_back_to_the_permutation(self):
        for places in range(7):
            for perm in permutations(range(1, places + 1)):
                self.assertEqual(perm_of(*tableaux_of(perm)), perm)

    def test_8_places(self):
        for perm in ((8, 7, 6, 5, 4, 3, 2, 1), (1, 2, 3, 4, 5, 6, 7, 8), (3, 8, 1, 6, 2, 7, 5, 4)):
            self.assertEqual(perm_of(*tableaux_of(perm)), perm)

    def assert_invalid(self, values, places):
        with self.assertRaises(InvalidPermutation):
            perm_of(values, places)

    def test_lengths_that_differ(self):
        self.assert_invalid(((2, 1),), ((1,), (2,)))
        self.assert_invalid(((2,), (1,)), ((1, 2),))
        self.assert_invalid(((3, 2), (1,)), ((1, 2, 3),))
        self.assert_invalid(((3, 2, 1),), ((1, 2), (3,)))
        self.assert_invalid(((4, 3), (2, 1)), ((1, 2), (3,), (4,)))
        self.assert_invalid(((1,),), ())
        self.assert_invalid((), ((1,),))

    def test_empty_rows(self):
        self.assert_invalid(((),), ((),))
        self.assert_invalid(((2, 1), ()), ((1, 2), ()))
        self.assert_invalid(((2, 1), (), ()), ((1, 2), (), ()))

    def test_a_row_longer_than_the_one_before(self):
        self.assert_invalid(((3,), (2, 1)), ((1,), (2, 3)))
        self.assert_invalid(((6, 5), (4,), (3, 2)), ((1, 2), (3,), (4, 5)))
        self.assert_invalid(((5, 4), (3,), (2, 1)), ((1, 2), (3,), (4, 5)))
        self.assert_invalid(((), (1,)), ((), (1,)))

    def test_entries_that_are_not_1_to_their_number(self):
        good, other = ((2, 1),), ((1, 2),)
        for values in (((3, 1),), ((3, 2),), ((1, 0),), ((2, -1),)):
            self.assert_invalid(values, other)
        for places in (((1, 3),), ((2, 3),), ((0, 1),), ((-1, 2),)):
            self.assert_invalid(good, places)
        # Entries that occur twice.
        self.assert_invalid(((3, 1), (1,)), ((1, 2), (3,)))
        self.assert_invalid(((3, 1), (2,)), ((1, 2), (2,)))
        self.assert_invalid(((3, 2), (2,)), ((1, 2), (3,)))
        self.assert_invalid(((3, 1), (2,)), ((1, 3), (3,)))
        self.assertEqual(tableaux_of(perm_of(((3, 1), (2,)), ((1, 2), (3,)))), (((3, 1), (2,)), ((1, 2), (3,))))

    def test_values_that_are_not_decreasing(self):
        self.assert_invalid(((1, 2),), ((1, 2),))
        self.assert_invalid(((3, 1, 2),), ((1, 2, 3),))
        self.assert_invalid(((1,), (2,)), ((1,), (2,)))
        self.assert_invalid(((2, 1), (3,)), ((1, 2), (3,)))
        self.assert_invalid(((4, 1), (3, 2)), ((1, 2), (3, 4)))
        self.assert_invalid(((4, 3), (1, 2)), ((1, 2), (3, 4)))
        self.assert_invalid(((3,), (1,), (2,)), ((1,), (2,), (3,)))

    def test_places_that_are_not_increasing(self):
        self.assert_invalid(((2, 1),), ((2, 1),))
        self.assert_invalid(((3, 2, 1),), ((1, 3, 2),))
        self.assert_invalid(((2,), (1,)), ((2,), (1,)))
        self.assert_invalid(((3, 2), (1,)), ((2, 3), (1,)))
        self.assert_invalid(((4, 2), (3, 1)), ((1, 4), (2, 3)))
        self.assert_invalid(((4, 2), (3, 1)), ((1, 2), (4, 3)))
        self.assert_invalid(((3,), (2,), (1,)), ((1,), (3,), (2,)))


if __name__ == "__main__":
    unittest.main()
