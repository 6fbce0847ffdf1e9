import unittest
from itertools import combinations, permutations

from helpers import NO_SIZES, SIZES

from tablelaws.decreasing import colours, decreasing_places, inversions, is_good, longest_decreasing
from tablelaws.errors import WrongSize


def is_decreasing(perm, places):
    """Whether ascending places have descending values."""
    return all(perm[j - 1] > perm[k - 1] for j, k in zip(places, places[1:]))


def subsequences(perm):
    """The places of all decreasing subsequences, by trying all sets of places."""
    places = range(1, len(perm) + 1)
    return [chosen for length in places for chosen in combinations(places, length) if is_decreasing(perm, chosen)]


def some_permutations():
    """All permutations of up to 5 places, and some of 6 and 7 places."""
    found = [perm for places in range(6) for perm in permutations(range(1, places + 1))]
    found.extend(list(permutations(range(1, 7)))[::7])
    found.extend(list(permutations(range(1, 8)))[::101])
    return found


class DecreasingTest(unittest.TestCase):
    def test_no_places(self):
        self.assertEqual((inversions(()), longest_decreasing(()), colours(())), (0, 0, ()))
        for length in range(1, 13):
            self.assertIsNone(decreasing_places((), length))

    def test_one_place(self):
        self.assertEqual((inversions((1,)), longest_decreasing((1,)), colours((1,))), (0, 1, (1,)))
        self.assertEqual(decreasing_places((1,), 1), (1,))
        self.assertIsNone(decreasing_places((1,), 2))

    def test_by_hand(self):
        self.assertEqual(colours((3, 1, 4, 2)), (1, 2, 1, 2))
        self.assertEqual(inversions((3, 1, 4, 2)), 3)
        self.assertEqual(inversions((4, 3, 2, 1)), 6)
        self.assertEqual(inversions((2, 3, 1)), 2)
        self.assertEqual(longest_decreasing((3, 1, 4, 2)), 2)
        self.assertEqual(decreasing_places((4, 3, 2, 1), 4), (1, 2, 3, 4))
        self.assertEqual(decreasing_places((2, 1, 3, 4), 2), (1, 2))
        self.assertEqual(decreasing_places((1, 2, 4, 3), 2), (3, 4))

    def test_inversions(self):
        for perm in some_permutations():
            pairs = combinations(range(len(perm)), 2)
            self.assertEqual(inversions(perm), len([1 for j, k in pairs if perm[j] > perm[k]]))

    def test_longest_decreasing(self):
        for perm in some_permutations():
            expected = max([len(chosen) for chosen in subsequences(perm)], default=0)
            self.assertEqual(longest_decreasing(perm), expected)

    def test_decreasing_places(self):
        for perm in some_permutations():
            lengths = {len(chosen) for chosen in subsequences(perm)}
            for length in range(1, 13):
                found = decreasing_places(perm, length)
                if length in lengths:
                    self.assertIsInstance(found, tuple)
                    self.assertEqual(len(found), length)
                    self.assertTrue(all(j < k for j, k in zip(found, found[1:])))
                    self.assertTrue(all(1 <= place <= len(perm) for place in found))
                    self.assertTrue(is_decreasing(perm, found))
                else:
                    self.assertIsNone(found)

    def test_colours(self):
        for perm in some_permutations():
            chosen = subsequences(perm)
            found = colours(perm)
            self.assertIsInstance(found, tuple)
            self.assertEqual(found, tuple(max(len(places) for places in chosen if places[-1] == place)
                                          for place in range(1, len(perm) + 1)))
            for j, k in combinations(range(len(perm)), 2):
                self.assertTrue(found[j] != found[k] or perm[j] < perm[k])


class GoodTest(unittest.TestCase):
    def test_is_good(self):
        for perm in some_permutations():
            longest = max([len(chosen) for chosen in subsequences(perm)], default=0)
            for size in SIZES:
                self.assertIs(is_good(perm, size), longest <= size)

    def test_numbers_of_good_permutations(self):
        perms = list(permutations((1, 2, 3, 4)))
        self.assertEqual([len([perm for perm in perms if is_good(perm, size)]) for size in SIZES], [1, 14, 23])

    def test_wrong_size(self):
        for size in NO_SIZES:
            for perm in ((), (1,), (2, 1), (3, 2, 1)):
                with self.assertRaises(WrongSize):
                    is_good(perm, size)


if __name__ == "__main__":
    unittest.main()
