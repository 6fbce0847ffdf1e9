import unittest
from itertools import permutations, product

from helpers import NO_SIZES, SIZES, has_decreasing

from tablelaws.counting import filling_count, good_count, shapes_of
from tablelaws.errors import WrongSize


def all_shapes(places, columns):
    """All shapes with so many cells, by trying all tuples of row lengths."""
    found = [row for length in range(places + 1) for row in product(range(1, columns + 1), repeat=length)
             if sum(row) == places and all(a >= b for a, b in zip(row, row[1:]))]
    return sorted(found, reverse=True)


def increasing_fillings(shape):
    """The number of increasing tableaux, by trying all orders of the entries."""
    cells = [(row, column) for row, length in enumerate(shape) for column in range(length)]
    count = 0
    for entries in permutations(range(len(cells))):
        entry = dict(zip(cells, entries))
        count += all(entry[cell] > entry.get((cell[0] - 1, cell[1]), -1)
                     and entry[cell] > entry.get((cell[0], cell[1] - 1), -1) for cell in cells)
    return count


class ShapesTest(unittest.TestCase):
    def test_examples(self):
        self.assertEqual(shapes_of(4, 2), [(2, 2), (2, 1, 1), (1, 1, 1, 1)])
        self.assertEqual(shapes_of(0, 2), [()])

    def test_0_places(self):
        for columns in range(1, 10):
            self.assertEqual(shapes_of(0, columns), [()])

    def test_all_shapes(self):
        for places in range(7):
            for columns in range(1, 8):
                self.assertEqual(shapes_of(places, columns), all_shapes(places, columns))

    def test_numbers_of_shapes(self):
        self.assertEqual([len(shapes_of(places, 9)) for places in range(10)], [1, 1, 2, 3, 5, 7, 11, 15, 22, 30])
        self.assertEqual(shapes_of(9, 1), [(1,) * 9])
        self.assertEqual(shapes_of(9, 9)[:3], [(9,), (8, 1), (7, 2)])

    def test_the_list_is_new(self):
        shapes_of(0, 2).clear()
        shapes_of(4, 2).clear()
        self.assertEqual((len(shapes_of(0, 2)), len(shapes_of(4, 2))), (1, 3))


class CountTest(unittest.TestCase):
    def test_by_hand(self):
        self.assertEqual([filling_count(shape) for shape in ((), (1,), (2, 1), (2, 2), (3, 2, 1), (3, 3, 3), (9,))],
                         [1, 1, 2, 2, 16, 42, 1])

    def test_fillings(self):
        for places in range(7):
            for shape in all_shapes(places, places):
                self.assertEqual(filling_count(shape), increasing_fillings(shape))

    def test_sum_of_the_squares(self):
        total = 1
        for places in range(10):
            total *= max(places, 1)
            self.assertEqual(sum(filling_count(shape) ** 2 for shape in shapes_of(places, 9)), total)

    def test_good_count(self):
        for size in SIZES:
            for places in range(8):
                good = [perm for perm in permutations(range(places)) if not has_decreasing(perm, size + 1)]
                self.assertEqual(good_count(size, places), len(good))

    def test_9_places(self):
        self.assertEqual([good_count(size, 9) for size in SIZES], [1, 4862, 94359])

    def test_wrong_size(self):
        for size in NO_SIZES:
            for places in (0, 1, 9):
                with self.assertRaises(WrongSize):
                    good_count(size, places)


if __name__ == "__main__":
    unittest.main()
