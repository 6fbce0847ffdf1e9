import unittest
from itertools import combinations, permutations, product

from helpers import SIZES, fraction, perm_sum, product_of, ratio, shown_sum

from tablelaws.alternating import alternating_sum, relation_sum
from tablelaws.errors import InvalidPermutation
from tablelaws.perms import identity
from tablelaws.permsums import PermSum
from tablelaws.ratios import Ratio


def sign_of(perm):
    """The sign by the number of inversions."""
    return (-1) ** len([1 for a, b in combinations(perm, 2) if a > b])


def expected_terms(places, chosen):
    """The permutations that move no other place, with their signs, by trying all permutations."""
    return {perm: sign_of(perm) for perm in permutations(range(1, places + 1))
            if all(perm[place - 1] == place for place in range(1, places + 1) if place not in chosen)}


def some_relations(places, size):
    """Relations for a size with different fractions, permutations and chosen places."""
    perms = list(permutations(range(1, places + 1)))
    chosen = list(combinations(range(1, places + 1), size + 1))
    return [(Ratio(2 * k - 5, k + 1), perms[k * 7 % len(perms)], chosen[k % len(chosen)]) for k in range(12)]


class AlternatingTest(unittest.TestCase):
    def test_by_hand(self):
        self.assertEqual(shown_sum(alternating_sum(3, (1, 3))), [("123", "1"), ("321", "-1")])
        self.assertEqual(shown_sum(alternating_sum(4, (1, 2, 4))), [("1234", "1"), ("1432", "-1"), ("2134", "-1"),
                                                                    ("2431", "1"), ("4132", "1"), ("4231", "-1")])

    def test_0_and_1_chosen_places(self):
        for places in range(7):
            expected = PermSum(places, [(identity(places), Ratio(1))])
            self.assertEqual(alternating_sum(places, ()), expected)
            for place in range(1, places + 1):
                self.assertEqual(alternating_sum(places, (place,)), expected)

    def test_all_choices(self):
        for places in range(6):
            for count in range(places + 1):
                for chosen in combinations(range(1, places + 1), count):
                    found = alternating_sum(places, chosen)
                    self.assertIsInstance(found, PermSum)
                    self.assertEqual(found.places, places)
                    self.assertEqual({perm: fraction(found[perm]) for perm in found}, expected_terms(places, chosen))

    def test_6_places(self):
        for chosen in ((1, 2, 3, 4, 5, 6), (2, 3, 5, 6), (4, 6)):
            found = alternating_sum(6, chosen)
            self.assertEqual({perm: fraction(found[perm]) for perm in found}, expected_terms(6, chosen))


class RelationTest(unittest.TestCase):
    def test_example_of_point_80(self):
        found = relation_sum(3, (ratio("1/2"), (2, 3, 1), (1, 3)))
        self.assertEqual(found, perm_sum(3, p231="1/2", p132="-1/2"))

    def test_no_and_one_chosen_place(self):
        for chosen in ((), (1,), (2,)):
            self.assertEqual(relation_sum(2, (Ratio(-3), (2, 1), chosen)), perm_sum(2, p21="-3"))
        self.assertEqual(relation_sum(0, (Ratio(5), (), ())), perm_sum(0, p="5"))

    def test_products(self):
        for places in (2, 3, 4):
            for size in (1, 2, 3):
                if size < places:
                    for factor, perm, chosen in some_relations(places, size):
                        found = relation_sum(places, (factor, perm, chosen))
                        expected = {product_of(perm, other): fraction(factor) * sign
                                    for other, sign in expected_terms(places, chosen).items()}
                        self.assertEqual({other: fraction(found[other]) for other in found}, expected)

    def test_the_fraction_zero(self):
        found = relation_sum(3, (Ratio(0), (2, 3, 1), (1, 3)))
        self.assertEqual((found.places, found.perms), (3, ()))

    def test_invalid_permutations(self):
        for number in (Ratio(1), Ratio(0), Ratio(-2, 3)):
            for perm in ((1, 1, 2), (1, 2), (1, 2, 3, 4), (0, 1, 2), (2, 3, 4), (), (1, 2, 2), (-1, 2, 3)):
                for chosen in ((), (1,), (1, 3), (1, 2, 3)):
                    with self.assertRaises(InvalidPermutation):
                        relation_sum(3, (number, perm, chosen))
            with self.assertRaises(InvalidPermutation):
                relation_sum(0, (number, (1,), ()))

    def test_sums_of_equal_arrangements(self):
        """Point 81: the permutations that lead to one arrangement have coefficients whose sum is zero."""
        for size in SIZES:
            for places in range(size + 1, 6):
                for relation in some_relations(places, size):
                    found = relation_sum(places, relation)
                    for borne in product(range(1, size + 1), repeat=places):
                        sums = {}
                        for perm in found:
                            arrangement = [0] * places
                            for place, image in enumerate(perm):
                                arrangement[image - 1] = borne[place]
                            key = tuple(arrangement)
                            sums[key] = sums.get(key, 0) + fraction(found[perm])
                        self.assertEqual(set(sums.values()), {0})


if __name__ == "__main__":
    unittest.main()
