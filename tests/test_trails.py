import unittest
from itertools import permutations

from helpers import SIZES, all_perms

from tablelaws.matrices import Matrix
from tablelaws.perms import sign
from tablelaws.standard import standard_value
from tablelaws.staircases import doubled_arrows, stair_arrows
from tablelaws.trails import balance, trails

LISTS = (
    [], [(1, 1)], [(1, 2)], [(1, 2), (2, 1)], [(2, 1), (1, 2)], [(1, 1), (1, 1)], [(1, 2), (2, 3), (3, 1)],
    [(1, 1), (1, 2), (2, 2), (2, 1)], [(1, 2), (1, 2), (2, 1), (2, 1)], [(1, 2), (3, 1), (2, 3), (3, 2), (2, 1)],
    [(1, 1), (1, 1), (1, 1), (1, 1)], [(1, 2), (2, 3), (3, 1), (1, 3), (3, 2), (2, 1)], [(1, 2), (1, 3)],
    [(3, 3), (2, 3), (3, 2), (2, 2), (2, 3), (3, 1)], [(1, 1)] * 6,
)


def expected_trails(arrows, start, end):
    found = []
    for order in all_perms(len(arrows)):
        points = [start]
        for number in order:
            first, second = arrows[number - 1]
            points.append(second if points[-1] == first else None)
        if None not in points and points[-1] == end:
            found.append(order)
    return found


class TrailsTest(unittest.TestCase):
    def test_by_hand(self):
        self.assertEqual(list(trails([(1, 1), (1, 1)], 1, 1)), [(1, 2), (2, 1)])
        self.assertEqual(list(trails([(2, 1), (1, 2)], 1, 1)), [(2, 1)])
        self.assertEqual(list(trails([(2, 1), (1, 2)], 2, 2)), [(1, 2)])
        self.assertEqual(list(trails([(2, 1), (1, 2)], 1, 2)), [])
        self.assertEqual(list(trails([(1, 2), (1, 3)], 1, 3)), [])
        self.assertEqual(list(trails([(1, 2), (2, 3), (1, 2), (2, 1)], 1, 3)), [(1, 4, 3, 2), (3, 4, 1, 2)])

    def test_the_empty_list(self):
        for point in (1, 2, 9):
            self.assertEqual(list(trails([], point, point)), [()])
            self.assertEqual(list(trails([], point, point + 1)), [])
            self.assertEqual((balance([], point, point), balance([], point, point + 1)), (1, 0))

    def test_all_trails_in_order(self):
        for arrows in LISTS:
            for start in range(1, 5):
                for end in range(1, 5):
                    found = list(trails(arrows, start, end))
                    self.assertEqual(found, expected_trails(arrows, start, end))
                    self.assertTrue(all(isinstance(trail, tuple) for trail in found))

    def test_it_is_a_generator(self):
        found = trails([(1, 1), (1, 1)], 1, 1)
        self.assertEqual(next(found), (1, 2))
        self.assertEqual(next(found), (2, 1))
        self.assertEqual(list(found), [])

    def test_greater_points(self):
        self.assertEqual(list(trails([(70, 5), (5, 70), (5, 5)], 70, 70)), [(1, 3, 2)])

    def test_the_list_stays(self):
        arrows = [(1, 2), (2, 1)]
        list(trails(arrows, 1, 1))
        balance(arrows, 1, 1)
        self.assertEqual(arrows, [(1, 2), (2, 1)])


class BalanceTest(unittest.TestCase):
    def test_by_hand(self):
        self.assertEqual(balance([(1, 1)], 1, 1), 1)
        self.assertEqual(balance([(2, 1), (1, 2)], 1, 1), -1)
        self.assertEqual(balance([(1, 1), (1, 1)], 1, 1), 0)
        self.assertEqual(balance([(1, 2)], 2, 1), 0)

    def test_the_difference_of_the_numbers(self):
        for arrows in LISTS:
            for start in (1, 2, 3):
                for end in (1, 2, 3):
                    found = [sign(trail) for trail in expected_trails(arrows, start, end)]
                    self.assertEqual(balance(arrows, start, end), found.count(1) - found.count(-1))

    def test_the_entry_of_the_standard_value(self):
        lists = LISTS + tuple(stair_arrows(3, length) for length in range(6))
        lists += tuple(doubled_arrows(3, place) for place in range(1, 6))
        lists += tuple(list(arrows) for arrows in list(permutations([(1, 1), (1, 2), (2, 3), (3, 1), (2, 1)]))[::7])
        nonzero = 0
        for arrows in lists:
            for size in SIZES:
                if all(max(arrow) <= size for arrow in arrows):
                    value = standard_value(size, [Matrix.unit(size, *arrow) for arrow in arrows])
                    for start in range(1, size + 1):
                        for end in range(1, size + 1):
                            entry = value[start, end]
                            self.assertEqual((entry.num, entry.den), (balance(arrows, start, end), 1))
                            nonzero += entry.num != 0
        self.assertGreater(nonzero, 20)


if __name__ == "__main__":
    unittest.main()
