import unittest
from itertools import permutations

from tablelaws.errors import InvalidPermutation
from tablelaws.perms import check_permutation, compose, cycles_of, identity, inverse, sign


def perms_of(places):
    return list(permutations(range(1, places + 1)))


class PermsTest(unittest.TestCase):
    def test_permutations_are_accepted(self):
        for places in range(6):
            for perm in perms_of(places):
                self.assertIsNone(check_permutation(perm, places))
        self.assertIsNone(check_permutation((7, 6, 5, 4, 3, 2, 1), 7))

    def test_wrong_tuples(self):
        for perm, places in (((), 1), ((1,), 0), ((1, 2), 3), ((1, 2, 3), 2), ((1, 1), 2), ((2, 2), 2), ((0, 1), 2),
                             ((1, 3), 2), ((-1, 2), 2), ((1, 2, 2), 3), ((1, 2, 3, 3), 3), ((1, 2, 3, 4), 3),
                             ((2, 3, 4), 3), ((0, 1, 2), 3), ((1, 2, 3, 4, 5, 6), 7), ((1, 2, 3, 4, 5, 6, 8), 7)):
            with self.assertRaises(InvalidPermutation, msg=f"{perm} {places}"):
                check_permutation(perm, places)

    def test_identity(self):
        self.assertEqual([identity(places) for places in range(4)], [(), (1,), (1, 2), (1, 2, 3)])
        self.assertEqual(identity(7), (1, 2, 3, 4, 5, 6, 7))

    def test_product_in_both_orders(self):
        self.assertEqual(compose((2, 1, 3), (1, 3, 2)), (2, 3, 1))
        self.assertEqual(compose((1, 3, 2), (2, 1, 3)), (3, 1, 2))
        self.assertEqual(compose((), ()), ())

    def test_product_maps_by_the_second_one_first(self):
        for first in perms_of(4):
            for second in perms_of(4)[::5]:
                expected = tuple(first[second[j - 1] - 1] for j in range(1, 5))
                self.assertEqual(compose(first, second), expected)

    def test_inverse(self):
        self.assertEqual(inverse((2, 3, 1)), (3, 1, 2))
        for places in range(6):
            for perm in perms_of(places):
                self.assertEqual(compose(perm, inverse(perm)), identity(places))
                self.assertEqual(compose(inverse(perm), perm), identity(places))

    def test_cycles(self):
        for perm, cycles in (((), ()), ((1,), ((1,),)), ((1, 2), ((1,), (2,))), ((2, 1), ((1, 2),)),
                             ((2, 3, 1), ((1, 2, 3),)), ((3, 1, 2), ((1, 3, 2),)), ((1, 3, 2), ((1,), (2, 3))),
                             ((3, 2, 1), ((1, 3), (2,))), ((4, 1, 3, 2, 6, 5), ((1, 4, 2), (3,), (5, 6))),
                             ((7, 6, 5, 4, 3, 2, 1), ((1, 7), (2, 6), (3, 5), (4,)))):
            self.assertEqual(cycles_of(perm), cycles)

    def test_cycles_of_all_permutations(self):
        for perm in perms_of(5):
            cycles = cycles_of(perm)
            self.assertEqual(sorted(place for cycle in cycles for place in cycle), [1, 2, 3, 4, 5])
            self.assertEqual([cycle[0] for cycle in cycles], sorted(cycle[0] for cycle in cycles))
            for cycle in cycles:
                self.assertIsInstance(cycle, tuple)
                self.assertEqual(cycle[0], min(cycle))
                for k, place in enumerate(cycle):
                    self.assertEqual(perm[place - 1], cycle[(k + 1) % len(cycle)])

    def test_sign(self):
        for places in range(6):
            for perm in perms_of(places):
                inversions = sum(perm[j] > perm[k] for k in range(places) for j in range(k))
                self.assertEqual(sign(perm), (-1) ** inversions)
        self.assertEqual(sign(()), 1)
        self.assertEqual(sign((2, 1, 3, 4, 5, 6, 7)), -1)


if __name__ == "__main__":
    unittest.main()
