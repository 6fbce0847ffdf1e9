import unittest
from itertools import permutations

from helpers import fraction, perm_sum, product_of, ratio, shown_sum

from tablelaws.errors import InvalidPermutation, WrongSize
from tablelaws.permsums import PermSum
from tablelaws.polys import Poly
from tablelaws.ratios import Ratio


class CreationTest(unittest.TestCase):
    def test_attributes(self):
        permsum = perm_sum(3, p213="1", p123="-1/2")
        self.assertEqual((permsum.places, permsum.perms), (3, ((1, 2, 3), (2, 1, 3))))
        self.assertEqual(shown_sum(permsum), [("123", "-1/2"), ("213", "1")])

    def test_equal_permutations_are_added_up(self):
        permsum = PermSum(2, [((2, 1), Ratio(1)), ((1, 2), Ratio(5)), ((2, 1), Ratio(1, 2))])
        self.assertEqual(shown_sum(permsum), [("12", "5"), ("21", "3/2")])

    def test_terms_that_cancel(self):
        permsum = PermSum(2, [((2, 1), Ratio(1)), ((1, 2), Ratio(0)), ((2, 1), Ratio(-1))])
        self.assertEqual((permsum.perms, len(permsum)), ((), 0))

    def test_no_places(self):
        permsum = PermSum(0, [((), Ratio(3)), ((), Ratio(4))])
        self.assertEqual((permsum.places, permsum.perms, str(permsum[()])), (0, ((),), "7"))
        self.assertEqual(str((permsum * permsum)[()]), "49")
        self.assertEqual(PermSum(0, []).perms, ())

    def test_seven_places(self):
        perm = (7, 6, 5, 4, 3, 2, 1)
        self.assertEqual(PermSum(7, [(perm, Ratio(2))]).perms, (perm,))

    def test_items(self):
        permsum = perm_sum(3, p321="4", p132="-1")
        self.assertEqual([str(permsum[perm]) for perm in ((3, 2, 1), (1, 3, 2), (1, 2, 3))], ["4", "-1", "0"])
        self.assertIsInstance(permsum[(1, 2, 3)], Ratio)
        self.assertIs((3, 2, 1) in permsum, True)
        self.assertIs((1, 2, 3) in permsum, False)
        self.assertEqual(len(permsum), 2)
        self.assertEqual(list(permsum), [(1, 3, 2), (3, 2, 1)])

    def test_wrong_tuples(self):
        for perm in ((), (1, 2), (1, 2, 3, 4), (1, 1, 2), (0, 1, 2), (2, 3, 4), (-1, 2, 3)):
            for number in (0, 1, -2):
                for terms in ([(perm, Ratio(number))], [((1, 2, 3), Ratio(1)), (perm, Ratio(number))],
                              [(perm, Ratio(1)), (perm, Ratio(-1))]):
                    with self.assertRaises(InvalidPermutation):
                        PermSum(3, terms)
        with self.assertRaises(InvalidPermutation):
            PermSum(0, [((1,), Ratio(0))])

    def test_a_list_that_is_changed_afterwards(self):
        terms = [((1, 2), Ratio(1))]
        permsum = PermSum(2, terms)
        terms.append(((2, 1), Ratio(1)))
        terms[0] = ((2, 1), Ratio(4))
        self.assertEqual(shown_sum(permsum), [("12", "1")])


class OperatorTest(unittest.TestCase):
    first = perm_sum(3, p123="1", p231="1/2", p213="-3")
    second = perm_sum(3, p123="-1", p132="2", p231="1/3")

    def test_sum_and_difference(self):
        self.assertEqual(shown_sum(self.first + self.second), [("132", "2"), ("213", "-3"), ("231", "5/6")])
        self.assertEqual(shown_sum(self.first - self.second),
                         [("123", "2"), ("132", "-2"), ("213", "-3"), ("231", "1/6")])
        self.assertEqual((self.first - self.first).perms, ())

    def test_negative_and_scaled(self):
        self.assertEqual(shown_sum(-self.first), [("123", "-1"), ("213", "3"), ("231", "-1/2")])
        self.assertEqual(shown_sum(self.first.scaled(Ratio(-2, 3))), [("123", "-2/3"), ("213", "2"), ("231", "-1/3")])
        self.assertEqual(shown_sum(self.first.scaled(Ratio(0))), [])
        self.assertEqual(self.first.scaled(Ratio(0)).places, 3)

    def test_product_in_both_orders(self):
        a, b = perm_sum(3, p213="2"), perm_sum(3, p132="5")
        self.assertEqual(shown_sum(a * b), [("231", "10")])
        self.assertEqual(shown_sum(b * a), [("312", "10")])

    def test_product(self):
        for a, b in ((self.first, self.second), (self.second, self.first)):
            expected = {perm: 0 for perm in permutations((1, 2, 3))}
            for p in a:
                for q in b:
                    expected[product_of(p, q)] += fraction(a[p]) * fraction(b[q])
            result = a * b
            self.assertEqual(result.perms, tuple(sorted(perm for perm in expected if expected[perm])))
            for perm in expected:
                self.assertEqual(fraction(result[perm]), expected[perm])

    def test_product_that_cancels(self):
        self.assertEqual((perm_sum(2, p12="1", p21="1") * perm_sum(2, p12="1", p21="-1")).perms, ())

    def test_places_that_differ(self):
        for first, second in ((0, 1), (2, 3), (3, 2)):
            a, b = PermSum(first, []), PermSum(second, [(tuple(range(1, second + 1)), Ratio(1))])
            for action in (lambda: a + b, lambda: a - b, lambda: a * b):
                with self.assertRaises(WrongSize):
                    action()

    def test_equality(self):
        self.assertIs(perm_sum(2, p12="1", p21="2") == perm_sum(2, p21="2", p12="1"), True)
        self.assertIs(perm_sum(2, p12="1") == perm_sum(2, p12="2"), False)
        self.assertIs(perm_sum(2, p12="1") == perm_sum(2, p21="1"), False)
        self.assertIs(perm_sum(2, p12="1") == perm_sum(2, p12="1", p21="1"), False)
        self.assertIs(PermSum(2, []) == PermSum(3, []), False)
        self.assertIs(PermSum(2, []) != PermSum(2, []), False)

    def test_equality_with_other_objects(self):
        for other in (None, 0, (), [], {}, Ratio(0), Poly("number", [])):
            self.assertIs(PermSum(0, []) == other, False)
            self.assertIs(other == PermSum(0, []), False)

    def test_arguments_stay(self):
        before = shown_sum(self.first), shown_sum(self.second)
        for _ in (self.first + self.second, self.first - self.second, self.first * self.second, -self.first,
                  self.first.scaled(Ratio(2))):
            self.assertEqual((shown_sum(self.first), shown_sum(self.second)), before)


if __name__ == "__main__":
    unittest.main()
