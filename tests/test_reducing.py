import unittest
from itertools import combinations, permutations

from helpers import NO_SIZES, SIZES, has_decreasing, perm_sum, shown_sum

from tablelaws.alternating import relation_sum
from tablelaws.errors import TooLarge, WrongSize
from tablelaws.linearizing import linearize
from tablelaws.notation import read_poly
from tablelaws.permsums import PermSum
from tablelaws.ratios import Ratio
from tablelaws.reducing import reduce_sum


def is_good(perm, size):
    return not has_decreasing(perm, size + 1)


def all_perms(places):
    return list(permutations(range(1, places + 1)))


def full_sum(places, seed=1):
    """A sum with a drawn coefficient for each permutation; some coefficients are zero."""
    terms, state = [], seed
    for perm in all_perms(places):
        state = (state * 1103515245 + 12345) % 2147483648
        terms.append((perm, Ratio(state // 65536 % 7 - 3, state // 1048576 % 4 + 1)))
    return PermSum(places, terms)


def some_sums():
    found = [full_sum(places, seed) for places in range(6) for seed in (1, 2)] + [full_sum(6)]
    found.extend(PermSum(places, []) for places in range(7))
    found.extend(PermSum(places, [(perm, Ratio(-2, 3))]) for places in range(5) for perm in all_perms(places))
    found.append(PermSum(6, [((6, 5, 4, 3, 2, 1), Ratio(1))]))
    return found


class ReducingTest(unittest.TestCase):
    def assert_reduced(self, size, permsum):
        found = reduce_sum(size, permsum)
        self.assertIsInstance(found, tuple)
        good, relations = found
        self.assertIsInstance(good, PermSum)
        self.assertIsInstance(relations, list)
        self.assertTrue(all(is_good(perm, size) for perm in good))
        total = good
        for relation in relations:
            self.assertIsInstance(relation, tuple)
            ratio, perm, chosen = relation
            self.assertIsInstance(ratio, Ratio)
            self.assertEqual(sorted(perm), list(range(1, permsum.places + 1)))
            self.assertIsInstance(perm, tuple)
            self.assertIsInstance(chosen, tuple)
            self.assertEqual(len(chosen), size + 1)
            self.assertEqual(list(chosen), sorted(set(chosen)))
            self.assertTrue(all(1 <= place <= permsum.places for place in chosen))
            total = total + relation_sum(permsum.places, relation)
        self.assertEqual(total, permsum)
        bad = [perm for perm in all_perms(permsum.places) if not is_good(perm, size)]
        self.assertLessEqual(len(relations), len(bad))
        return good, relations

    def test_all_sums(self):
        for permsum in some_sums():
            for size in SIZES:
                self.assert_reduced(size, permsum)

    def test_by_hand(self):
        good, relations = self.assert_reduced(1, perm_sum(2, p21="3", p12="1"))
        self.assertEqual(shown_sum(good), [("12", "4")])
        self.assertEqual(len(relations), 1)
        good, _ = self.assert_reduced(2, perm_sum(3, p321="1"))
        self.assertEqual(shown_sum(good), [("123", "1"), ("132", "-1"), ("213", "-1"), ("231", "1"), ("312", "1")])
        good, relations = self.assert_reduced(2, perm_sum(2, p21="3"))
        self.assertEqual((shown_sum(good), relations), ([("21", "3")], []))

    def test_size_1_adds_up_all_coefficients(self):
        for places in range(6):
            permsum = full_sum(places)
            total = Ratio(0)
            for perm in permsum:
                total = total + permsum[perm]
            good, _ = reduce_sum(1, permsum)
            self.assertEqual(good, PermSum(places, [(tuple(range(1, places + 1)), total)]))

    def test_good_sums_stay(self):
        for size in SIZES:
            for places in range(6):
                whole = full_sum(places)
                permsum = PermSum(places, [(perm, whole[perm]) for perm in whole if is_good(perm, size)])
                self.assertEqual(reduce_sum(size, permsum), (permsum, []))

    def test_no_permutations(self):
        for size in SIZES:
            for places in range(7):
                self.assertEqual(reduce_sum(size, PermSum(places, [])), (PermSum(places, []), []))

    def test_sums_that_differ_by_relations(self):
        for size in SIZES:
            for places in range(size + 1, 7):
                first = full_sum(places, seed=places)
                second = first
                perms = all_perms(places)
                for k, chosen in enumerate(list(combinations(range(1, places + 1), size + 1))[:8]):
                    relation = (Ratio(k + 1, 5 - 2 * k), perms[(11 * k + 3) % len(perms)], chosen)
                    second = second + relation_sum(places, relation)
                    self.assertEqual(reduce_sum(size, relation_sum(places, relation))[0], PermSum(places, []))
                self.assertNotEqual(first, second)
                self.assertEqual(self.assert_reduced(size, first)[0], self.assert_reduced(size, second)[0])

    def test_sums_that_differ_otherwise(self):
        for size in SIZES:
            for places in range(1, 5):
                first = full_sum(places)
                for perm in all_perms(places):
                    if is_good(perm, size):
                        second = first + PermSum(places, [(perm, Ratio(1))])
                        good = reduce_sum(size, first)[0] + PermSum(places, [(perm, Ratio(1))])
                        self.assertEqual(reduce_sum(size, second)[0], good)

    def test_laws_of_matrices(self):
        """Polynomials that are zero for all matrices of a size have sums without a good part."""
        bracket = read_poly("matrix | 1 - xy | -1 - yx")
        self.assertEqual(reduce_sum(1, linearize(bracket, "xy"))[0].perms, ())
        self.assertNotEqual(reduce_sum(2, linearize(bracket, "xy"))[0].perms, ())
        square = read_poly("matrix | 1 - xx | -1 (x) x | 1/2 (x)(x) - | -1/2 (xx) -")
        self.assertEqual(reduce_sum(1, linearize(square, "xx"))[0].perms, ())
        self.assertEqual(reduce_sum(2, linearize(square, "xx"))[0].perms, ())
        self.assertNotEqual(reduce_sum(3, linearize(square, "xx"))[0].perms, ())

    def test_the_argument_stays_and_results_are_new(self):
        permsum = full_sum(4)
        reduce_sum(2, permsum)[1].clear()
        self.assertEqual(permsum, full_sum(4))
        self.assertGreater(len(reduce_sum(2, permsum)[1]), 0)


class ErrorTest(unittest.TestCase):
    def test_wrong_size(self):
        for size in NO_SIZES:
            for permsum in (PermSum(0, []), full_sum(3), PermSum(7, []), PermSum(7, [(tuple(range(1, 8)), Ratio(1))])):
                with self.assertRaises(WrongSize):
                    reduce_sum(size, permsum)

    def test_too_large(self):
        for size in SIZES:
            for permsum in (PermSum(7, []), PermSum(7, [((7, 6, 5, 4, 3, 2, 1), Ratio(1))])):
                with self.assertRaises(TooLarge):
                    reduce_sum(size, permsum)


if __name__ == "__main__":
    unittest.main()
