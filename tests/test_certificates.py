import unittest
from fractions import Fraction

from helpers import (KINDS, NO_SIZES, SIZES, all_perms, drawn_polys, fraction, has_decreasing, is_zero_somewhere, law,
                     poly, ratio, zero_polys)

from tablelaws.alternating import relation_sum
from tablelaws.certificates import Certificate, accepts, certify, conclusion
from tablelaws.errors import InvalidPermutation, TooLarge, WrongKind, WrongSize
from tablelaws.linearizing import linearize, places_of, restitute
from tablelaws.notation import read_poly
from tablelaws.permsums import PermSum
from tablelaws.ratios import Ratio

FIRST = ("xy", Ratio(1, 2), (2, 3, 1), (1, 3))
SECOND = ("x", Ratio(-3), (2, 1), (1, 2))
THIRD = ("xy", Ratio(4), (1, 2, 3), (2, 3))
BRACKET = read_poly("matrix | 1 - xy | -1 - yx")
SQUARE = read_poly("matrix | 1 - xx | -1 (x) x | 1/2 (x)(x) - | -1/2 (xx) -")
LONG = (poly("number", ("1", ["xxxxxxx"], "")), poly("matrix", ("1", [], "xyxyxy")),
        poly("matrix", ("1", ["xxx", "yyy"], ""), ("1", [], "x")),
        poly("number", ("1", ["x"], ""), ("2", ["x"] * 7, "")))


def certificate(*relations, size=1, kind="matrix"):
    return Certificate(size, kind, list(relations))


def parts(found):
    return (found.size, found.kind, found.relations)


class CertificateTest(unittest.TestCase):
    def test_attributes(self):
        for relations in ([FIRST, SECOND], (FIRST, SECOND)):
            found = Certificate(1, "matrix", relations)
            self.assertEqual(parts(found), (1, "matrix", (FIRST, SECOND)))
            self.assertIsInstance(found.relations, tuple)
            self.assertEqual(list(found), [FIRST, SECOND])
        self.assertEqual(parts(Certificate(2, "number", [])), (2, "number", ()))

    def test_a_list_that_is_changed_afterwards(self):
        relations = [FIRST, SECOND]
        found = Certificate(1, "matrix", relations)
        relations.append(THIRD)
        relations[0] = THIRD
        self.assertEqual(found.relations, (FIRST, SECOND))
        self.assertEqual(list(found), [FIRST, SECOND])

    def test_the_constructor_raises_no_error(self):
        for size in NO_SIZES + SIZES:
            for kind in KINDS:
                found = Certificate(size, kind, [("ba", Ratio(0), (1, 1), (5, 5)), ("A" * 9, Ratio(1), (), ())])
                self.assertEqual((found.size, found.kind, len(found.relations)), (size, kind, 2))

    def test_equal(self):
        self.assertTrue(certificate(FIRST, SECOND) == Certificate(1, "matrix", (FIRST, SECOND)))
        self.assertFalse(certificate(FIRST, SECOND) != Certificate(1, "matrix", (FIRST, SECOND)))
        self.assertTrue(certificate() == certificate())
        same = ("xy", Ratio(2, 4), (2, 3, 1), (1, 3))
        self.assertTrue(certificate(FIRST) == certificate(same))

    def test_unequal(self):
        found = certificate(FIRST, SECOND)
        others = [certificate(FIRST, SECOND, size=2), certificate(FIRST, SECOND, kind="number"),
                  certificate(SECOND, FIRST), certificate(FIRST), certificate(FIRST, SECOND, SECOND),
                  certificate(FIRST, THIRD), certificate()]
        for k, part in enumerate(("xx", Ratio(1, 3), (2, 1, 3), (1, 2))):
            others.append(certificate(FIRST[:k] + (part,) + FIRST[k + 1:], SECOND))
        others.extend([None, 1, "matrix", (1, "matrix", (FIRST, SECOND)), (FIRST, SECOND), [FIRST, SECOND], BRACKET])
        for other in others:
            self.assertFalse(found == other)
            self.assertTrue(found != other)
            self.assertFalse(other == found)
            self.assertTrue(other != found)
        self.assertFalse(certificate(size=1) == certificate(size=2))
        self.assertFalse(certificate(kind="number") == certificate())

    def test_sum(self):
        first, second = certificate(FIRST, SECOND), certificate(THIRD, FIRST)
        self.assertEqual(parts(first + second), (1, "matrix", (FIRST, SECOND, THIRD, FIRST)))
        self.assertEqual(parts(second + first), (1, "matrix", (THIRD, FIRST, FIRST, SECOND)))
        self.assertEqual(first + certificate(), first)
        self.assertEqual(certificate() + first, first)
        self.assertEqual((first.relations, second.relations), ((FIRST, SECOND), (THIRD, FIRST)))
        # Certificates that are not well formed are added, too.
        self.assertEqual(parts(certificate(size=7) + certificate(FIRST, size=7)), (7, "matrix", (FIRST,)))

    def test_errors_of_a_sum(self):
        for other in (certificate(SECOND, size=2), certificate(SECOND, size=2, kind="number")):
            with self.assertRaises(WrongSize):
                certificate(FIRST) + other
            with self.assertRaises(WrongSize):
                other + certificate(FIRST)
        with self.assertRaises(WrongKind):
            certificate(FIRST) + certificate(kind="number")
        with self.assertRaises(WrongKind):
            certificate(kind="number") + certificate()

    def test_multiples(self):
        found = certificate(FIRST, SECOND)
        expected = (("xy", Ratio(-1, 3), (2, 3, 1), (1, 3)), ("x", Ratio(2), (2, 1), (1, 2)))
        self.assertEqual(parts(found.scaled(Ratio(-2, 3))), (1, "matrix", expected))
        expected = (("xy", Ratio(-1, 2), (2, 3, 1), (1, 3)), ("x", Ratio(3), (2, 1), (1, 2)))
        self.assertEqual(parts(-found), (1, "matrix", expected))
        expected = (("xy", Ratio(0), (2, 3, 1), (1, 3)), ("x", Ratio(0), (2, 1), (1, 2)))
        self.assertEqual(parts(found.scaled(Ratio(0))), (1, "matrix", expected))
        self.assertEqual(parts(-certificate(size=3, kind="number")), (3, "number", ()))
        self.assertEqual(parts(certificate(size=3, kind="number").scaled(Ratio(2))), (3, "number", ()))
        self.assertEqual(parts(found), (1, "matrix", (FIRST, SECOND)))

    def test_empty(self):
        for size in SIZES + NO_SIZES:
            for kind in KINDS:
                found = Certificate.empty(size, kind)
                self.assertIsInstance(found, Certificate)
                self.assertEqual(parts(found), (size, kind, ()))
                self.assertEqual(found.contents, ())

    def test_contents(self):
        self.assertEqual(certificate(FIRST, SECOND, THIRD).contents, ("x", "xy"))
        empty = ("", Ratio(0), (1,), ())
        long = ("xyz" * 5, Ratio(0), (1,), ())
        found = certificate(long, FIRST, ("b", Ratio(1), (), ()), empty, FIRST, empty).contents
        self.assertEqual(found, ("", "b", "xy", "xyz" * 5))
        self.assertIsInstance(found, tuple)


class WellFormedTest(unittest.TestCase):
    def check(self, expected, relation, size, kind):
        found = Certificate(size, kind, [relation]).well_formed
        self.assertIs(found, expected, (relation, size, kind))
        good = {1: ("ab", Ratio(1), (2, 1, 3)[:2 + (kind == "matrix")], (1, 2)),
                2: ("abc", Ratio(1), (2, 1, 3, 4)[:3 + (kind == "matrix")], (1, 2, 3)),
                3: ("abcd", Ratio(1), (2, 1, 3, 4, 5)[:4 + (kind == "matrix")], (1, 2, 3, 4))}
        if size in good:
            for relations in ([good[size], relation], [relation, good[size]]):
                self.assertIs(Certificate(size, kind, relations).well_formed, expected)

    def test_well_formed(self):
        for relation, size, kind in (
                (FIRST, 1, "matrix"), (SECOND, 1, "matrix"), (("aa", Ratio(0), (2, 1), (1, 2)), 1, "number"),
                (("az", Ratio(1), (1, 2), (1, 2)), 1, "number"), (("abc", Ratio(1), (3, 1, 2), (1, 2, 3)), 2, "number"),
                (("abc", Ratio(1), (3, 1, 2, 4), (1, 3, 4)), 2, "matrix"),
                (("abcxyz", Ratio(1), (6, 5, 4, 3, 2, 1), (1, 3, 5, 6)), 3, "number"),
                (("xxxxx", Ratio(1), (6, 5, 4, 3, 2, 1), (1, 3, 5, 6)), 3, "matrix")):
            self.check(True, relation, size, kind)
        for size in SIZES:
            for kind in KINDS:
                self.assertIs(Certificate.empty(size, kind).well_formed, True)

    def test_contents(self):
        for content in ("ba", "aBc"[1::-1], "a1", "AB", "a ", "a-", "aba", "zy"):
            places = len(content)
            self.check(False, (content, Ratio(1), tuple(range(1, places + 1)), (1, 2)), 1, "number")
            self.check(False, (content, Ratio(1), tuple(range(1, places + 2)), (1, 2)), 1, "matrix")
        # With the empty content there are never places enough to choose.
        for size in SIZES:
            for chosen in ((), (1,), (1, 2)):
                self.check(False, ("", Ratio(1), (1,), chosen), size, "matrix")
                self.check(False, ("", Ratio(1), (), chosen), size, "number")

    def test_too_many_places(self):
        self.check(False, ("abcdefg", Ratio(1), (1, 2, 3, 4, 5, 6, 7), (1, 2)), 1, "number")
        self.check(False, ("abcdef", Ratio(1), (1, 2, 3, 4, 5, 6, 7), (1, 2)), 1, "matrix")
        self.check(False, ("abcdef", Ratio(1), (1, 2, 3, 4, 5, 6), (1, 2)), 1, "matrix")

    def test_permutations(self):
        for perm in ((), (1,), (1, 2, 3, 4), (1, 1, 2), (0, 1, 2), (2, 3, 4), (1, 2), (1, 2, 3, 3), (1, 3, 3)):
            self.check(False, ("ab", Ratio(1), perm, (1, 2)), 1, "matrix")
            self.check(False, ("abc", Ratio(1), perm, (1, 2)), 1, "number")

    def test_chosen_places(self):
        for chosen in ((), (1,), (1, 2, 3), (2, 1), (2, 2), (0, 1), (3, 4), (-1, 2)):
            self.check(False, ("ab", Ratio(1), (1, 2, 3), chosen), 1, "matrix")
            self.check(False, ("abc", Ratio(1), (1, 2, 3), chosen), 1, "number")
        for chosen in ((1, 2), (1, 2, 3, 4), (1, 3, 2), (1, 1, 2), (2, 3, 5), (0, 1, 2), (3, 2, 1), (1, 3, 3)):
            self.check(False, ("abcd", Ratio(1), (1, 2, 3, 4), chosen), 2, "number")
            self.check(False, ("abc", Ratio(1), (1, 2, 3, 4), chosen), 2, "matrix")
        self.check(False, ("abcd", Ratio(1), (1, 2, 3, 4), (1, 2, 3)), 3, "number")

    def test_sizes(self):
        for size in NO_SIZES:
            for kind in KINDS:
                self.assertIs(Certificate.empty(size, kind).well_formed, False)
        perm = (1, 2, 3, 4, 5, 6)
        for size in (-1, 0, 4, 5):
            self.check(False, ("abcdef", Ratio(1), perm, perm[:size + 1]), size, "number")
            self.check(False, ("abcde", Ratio(1), perm, perm[:size + 1]), size, "matrix")

    def test_the_fraction_does_not_count(self):
        for text in ("0", "-7", "1/9"):
            self.check(True, ("xy", ratio(text), (2, 3, 1), (1, 3)), 1, "matrix")


class AcceptsTest(unittest.TestCase):
    def test_total_of_several_relations(self):
        # xy - yx at size 1: the permutations are (2, 3, 1) for xy and (3, 1, 2) for yx.
        first = ("xy", Ratio(1), (2, 3, 1), (1, 2))
        second = ("xy", Ratio(1), (3, 2, 1), (2, 3))
        self.assertEqual(relation_sum(3, first[1:]) + relation_sum(3, second[1:]), linearize(BRACKET, "xy"))
        self.assertIs(accepts(certificate(first, second), BRACKET), True)
        self.assertIs(accepts(certificate(second, first), BRACKET), True)
        self.assertIs(accepts(certificate(first, second, size=1), BRACKET.scaled(Ratio(2))), False)
        self.assertIs(accepts(certificate(first, second).scaled(Ratio(2)), BRACKET.scaled(Ratio(2))), True)
        self.assertIs(accepts(certificate(first, second, first, second), BRACKET.scaled(Ratio(2))), True)
        self.assertIs(accepts(certificate(first), BRACKET), False)
        self.assertIs(accepts(certificate(), BRACKET), False)
        self.assertIs(accepts(-certificate(first, second), BRACKET), False)
        self.assertIs(accepts(-certificate(first, second), -BRACKET), True)
        # The places of the contents are only those of the polynomial's.
        other = tuple([("xz",) + part[1:] for part in (first, second)])
        self.assertIs(accepts(certificate(*other), BRACKET), False)

    def test_contents_of_the_relations_alone(self):
        relation = ("z", Ratio(3), (2, 1), (1, 2))
        found = certify(1, BRACKET)
        self.assertIs(accepts(found + certificate(relation), BRACKET), False)
        self.assertIs(accepts(found + certificate(relation) + -certificate(relation), BRACKET), True)
        nothing = ("z", Ratio(0), (2, 1), (1, 2))
        self.assertIs(accepts(certificate(nothing) + found, BRACKET), True)
        self.assertIs(accepts(certificate(nothing), poly("matrix")), True)
        self.assertIs(accepts(certificate(relation), poly("matrix")), False)
        self.assertIs(accepts(certificate(relation, kind="number"), poly("number")), False)
        self.assertIs(accepts(certificate(), poly("matrix")), True)

    def test_contents_of_the_polynomial_alone(self):
        found = certify(1, BRACKET)
        for more in (poly("matrix", ("1", [], "z")), poly("matrix", ("1", [], "")), poly("matrix", ("2", ["xx"], "y")),
                     poly("matrix", ("1", [], "yz"), ("-1", [], "zy"))):
            self.assertIs(accepts(found, BRACKET + more), False)
        self.assertIs(accepts(Certificate.empty(1, "number"), poly("number", ("1", ["x"], ""))), False)

    def test_unequal_kinds(self):
        for size in SIZES:
            self.assertIs(accepts(Certificate.empty(size, "number"), poly("matrix")), False)
            self.assertIs(accepts(Certificate.empty(size, "matrix"), poly("number")), False)
            self.assertIs(accepts(Certificate.empty(size, "number"), poly("number")), True)
        # The same sums belong to a polynomial of the other kind.
        number = law("number", "x", "y")
        found = certify(1, number)
        self.assertIs(accepts(found, number), True)
        self.assertIs(accepts(Certificate(1, "matrix", found.relations), number), False)

    def test_not_well_formed(self):
        found = certify(1, BRACKET)
        for relation in (("yx", Ratio(0), (1, 2, 3), (1, 2)), ("x" * 9, Ratio(0), (1, 2), (1, 2)),
                         ("xy", Ratio(0), (1, 2), (1, 2)), ("xy", Ratio(0), (1, 1, 2), (1, 2)),
                         ("xy", Ratio(0), (1, 2, 3), (1, 2, 3)), ("xy", Ratio(0), (1, 2, 3), (2, 1)),
                         ("xy", Ratio(0), (1, 2, 3), (3, 4))):
            self.assertIs(accepts(found + certificate(relation), BRACKET), False)
        for size in NO_SIZES:
            self.assertIs(accepts(Certificate.empty(size, "matrix"), poly("matrix")), False)
        # Relations for size 2 do not show that a polynomial is zero at size 1 or 3.
        found = certify(2, SQUARE)
        for size in (1, 3):
            self.assertIs(accepts(Certificate(size, "matrix", found.relations), SQUARE), False)

    def test_too_large_whatever_the_certificate_is(self):
        for long in LONG:
            for found in (Certificate.empty(1, long.kind), Certificate.empty(1, "number"),
                          Certificate.empty(9, "matrix"), certificate(("ba", Ratio(1), (), ())), certify(1, BRACKET)):
                with self.assertRaises(TooLarge):
                    accepts(found, long)
        six = poly("number", ("1", ["xxxxxx"], ""), ("1", ["abcdef"], ""))
        self.assertIs(accepts(Certificate.empty(1, "number"), six), False)
        self.assertIs(accepts(Certificate.empty(1, "matrix"), poly("matrix", ("1", ["xxx"], "xx"))), False)

    def test_other_polynomials(self):
        for size in SIZES:
            for zero in zero_polys(size):
                found = certify(size, zero)
                self.assertIs(accepts(found, zero + poly(zero.kind, ("1", ["x"], ""))), False)
                if zero.terms:
                    self.assertIs(accepts(found, zero.scaled(Ratio(3))), False)


class CertifyTest(unittest.TestCase):
    def assert_certificate(self, size, value):
        found = certify(size, value)
        self.assertIsInstance(found, Certificate)
        self.assertEqual((found.size, found.kind), (size, value.kind))
        self.assertIs(found.well_formed, True)
        self.assertIs(accepts(found, value), True)
        counts = {}
        for content, part, perm, chosen in found:
            self.assertIsInstance(part, Ratio)
            self.assertIsInstance(perm, tuple)
            self.assertIsInstance(chosen, tuple)
            counts[content] = counts.get(content, 0) + 1
        for content, count in counts.items():
            places = places_of(content, value.kind)
            self.assertLessEqual(count, sum(has_decreasing(perm, size + 1) for perm in all_perms(places)))
        self.assertEqual(conclusion(found), value)
        self.assertEqual(conclusion(found).kind, value.kind)

    def test_zero(self):
        for size in SIZES:
            for value in zero_polys(size):
                self.assertTrue(is_zero_somewhere(value, size))
                for smaller in range(1, size + 1):
                    self.assert_certificate(smaller, value)

    def test_not_zero(self):
        for size in SIZES:
            for value in drawn_polys() + [part for smaller in range(1, size) for part in zero_polys(smaller)]:
                if not is_zero_somewhere(value, size):
                    self.assertIsNone(certify(size, value))
            for kind in KINDS:
                self.assertIsNone(certify(size, poly(kind, ("1", [], ""))))
                self.assertIsNone(certify(size, poly(kind, ("1/7", ["x"], ""))))

    def test_a_part_that_is_not_zero(self):
        for size in SIZES:
            for value in zero_polys(size):
                for extra in (poly(value.kind, ("1", [], "")), poly(value.kind, ("2", ["zz"], ""))):
                    self.assertIsNone(certify(size, value + extra))

    def test_six_places(self):
        value = law("number", "ab", "c", "de", "f")
        self.assert_certificate(3, value)
        self.assert_certificate(2, value)
        value = law("matrix", "xy", "xx", "y")
        self.assert_certificate(3, value)
        self.assert_certificate(1, value)
        self.assertIsNone(certify(3, law("number", "ab", "cd", "ef")))

    def test_without_terms(self):
        for size in SIZES:
            for kind in KINDS:
                self.assertEqual(certify(size, poly(kind)), Certificate.empty(size, kind))

    def test_example(self):
        self.assertEqual((accepts(certify(1, BRACKET), BRACKET), certify(2, BRACKET)), (True, None))

    def test_errors(self):
        for size in NO_SIZES:
            for value in LONG + (BRACKET, poly("number")):
                with self.assertRaises(WrongSize):
                    certify(size, value)
        for size in SIZES:
            for value in LONG:
                with self.assertRaises(TooLarge):
                    certify(size, value)


class ConclusionTest(unittest.TestCase):
    def test_by_hand(self):
        # 1/2 times tr(x) - x.
        found = conclusion(certificate(("x", Ratio(1, 2), (1, 2), (1, 2))))
        self.assertEqual(found, poly("matrix", ("1/2", ["x"], ""), ("-1/2", [], "x")))
        # 1/2 times tr(x) tr(x) - tr(xx), as the content has 2 ways.
        found = conclusion(certificate(("xx", Ratio(1), (1, 2), (1, 2)), kind="number"))
        self.assertEqual(found, poly("number", ("1/2", ["x", "x"], ""), ("-1/2", ["xx"], "")))

    def test_sum_over_all_contents(self):
        for size in SIZES:
            for kind in KINDS:
                relations, expected = [], poly(kind)
                for content in ("xxxx", "wxyz", "xxyy"):
                    places = places_of(content, kind)
                    total = PermSum(places, [])
                    for k, perm in enumerate(all_perms(places)[::17]):
                        part = (Ratio(k - 2, 3), perm, tuple(range(1, size + 2)))
                        relations.append((content,) + part)
                        total = total + relation_sum(places, part)
                    expected = expected + restitute(total, content, kind)
                found = Certificate(size, kind, relations[::-1])
                self.assertEqual(conclusion(found), expected)
                self.assertTrue(is_zero_somewhere(conclusion(found), size))
                self.assertIsNotNone(certify(size, expected))

    def test_it_is_accepted_for_its_conclusion_if_all_letters_differ(self):
        for size in SIZES:
            for kind in KINDS:
                relations = []
                for content in ("wxyz", "abcd"):
                    for k, perm in enumerate(all_perms(places_of(content, kind))[::13]):
                        relations.append((content, Ratio(3 - k, 2), perm, tuple(range(1, size + 2))))
                found = Certificate(size, kind, relations)
                self.assertIs(accepts(found, conclusion(found)), True)
                self.assertGreater(len(conclusion(found)), 0)

    def test_relations_that_cancel(self):
        found = conclusion(certificate(FIRST) + -certificate(FIRST))
        self.assertEqual((found.kind, found.terms), ("matrix", ()))
        for kind in KINDS:
            found = conclusion(Certificate.empty(2, kind))
            self.assertEqual((found.kind, found.terms), (kind, ()))

    def test_ratios(self):
        found = conclusion(certificate(FIRST, THIRD))
        self.assertEqual({key: fraction(found[key]) for key in found},
                         {((), "xy"): Fraction(1, 2), (("x", "y"), ""): 4, (("x",), "y"): Fraction(-9, 2)})

    def test_errors(self):
        bad = ("ba", Ratio(0), (1,), ())
        for size in NO_SIZES:
            for relations in ([], [bad], [FIRST]):
                with self.assertRaises(WrongSize):
                    conclusion(Certificate(size, "matrix", relations))
        for relation in (bad, ("x" * 6, Ratio(1), (1, 2, 3, 4, 5, 6, 7), (1, 2)), ("xy", Ratio(1), (1, 2), (1, 2)),
                         ("xy", Ratio(1), (1, 2, 3), (1, 2, 3)), ("xy", Ratio(1), (1, 2, 3), (2, 1)),
                         ("xY", Ratio(1), (1, 2, 3), (1, 2)), ("xy", Ratio(1), (1, 2, 3), (3, 4))):
            for relations in ([relation], [FIRST, relation], [relation, FIRST]):
                with self.assertRaises(InvalidPermutation):
                    conclusion(Certificate(1, "matrix", relations))
        with self.assertRaises(InvalidPermutation):
            conclusion(Certificate(2, "matrix", [FIRST]))


if __name__ == "__main__":
    unittest.main()
