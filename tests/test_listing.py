import unittest
from inspect import Parameter, isgeneratorfunction, signature
from itertools import permutations

from helpers import NO_SIZES, SIZES, has_decreasing

from tablelaws.errors import WrongSize
from tablelaws.listing import all_permutations, good_permutations


class AllTest(unittest.TestCase):
    def test_0_places(self):
        self.assertEqual(list(all_permutations(0)), [()])
        self.assertEqual(list(all_permutations(0, descending=True)), [()])

    def test_by_hand(self):
        expected = [(1, 2, 3), (1, 3, 2), (2, 1, 3), (2, 3, 1), (3, 1, 2), (3, 2, 1)]
        self.assertEqual(list(all_permutations(3)), expected)
        self.assertEqual(list(all_permutations(3, descending=False)), expected)
        self.assertEqual(list(all_permutations(3, descending=True)), expected[::-1])

    def test_each_once_and_in_order(self):
        for places in range(7):
            expected = sorted(permutations(range(1, places + 1)))
            self.assertEqual(list(all_permutations(places)), expected)
            self.assertEqual(list(all_permutations(places, descending=True)), expected[::-1])


class GoodTest(unittest.TestCase):
    def test_each_size(self):
        for size in SIZES:
            for places in range(7):
                expected = [perm for perm in sorted(permutations(range(1, places + 1)))
                            if not has_decreasing(perm, size + 1)]
                self.assertEqual(list(good_permutations(size, places)), expected)
                self.assertEqual(list(good_permutations(size, places, descending=False)), expected)
                self.assertEqual(list(good_permutations(size, places, descending=True)), expected[::-1])

    def test_by_hand(self):
        self.assertEqual(list(good_permutations(1, 4)), [(1, 2, 3, 4)])
        self.assertEqual(list(good_permutations(2, 3, descending=True)),
                         [(3, 1, 2), (2, 3, 1), (2, 1, 3), (1, 3, 2), (1, 2, 3)])
        for size in SIZES:
            self.assertEqual(list(good_permutations(size, 0)), [()])

    def test_wrong_size(self):
        for size in NO_SIZES:
            for places in (0, 1, 3):
                for descending in (True, False):
                    with self.assertRaises(WrongSize):
                        next(iter(good_permutations(size, places, descending=descending)))


class InterfaceTest(unittest.TestCase):
    def test_generators_with_a_keyword(self):
        for function in (all_permutations, good_permutations):
            self.assertTrue(isgeneratorfunction(function))
            parameter = signature(function).parameters["descending"]
            self.assertEqual((parameter.kind, parameter.default), (Parameter.KEYWORD_ONLY, False))


if __name__ == "__main__":
    unittest.main()
