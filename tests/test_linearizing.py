import unittest
from itertools import permutations

from helpers import KINDS, fraction, perm_sum, poly, shown_sum

from tablelaws.errors import TooLarge, WrongSize
from tablelaws.linearizing import linearize, places_of, read_perm, restitute
from tablelaws.notation import read_poly
from tablelaws.parts import contents_in, part_of
from tablelaws.permsums import PermSum
from tablelaws.ratios import Ratio
from tablelaws.words import content_of

NUMBERS = (
    poly("number", ("3", [], "")), poly("number", ("5", ["x", "xy"], "")),
    poly("number", ("1", ["xy"], ""), ("-1/2", ["x", "y"], ""), ("7", ["xxy"], ""), ("2", ["x", "xy"], ""),
         ("3", ["x", "x", "y"], "")),
    poly("number", ("1", ["xyzyx"], ""), ("-2", ["xx", "yyz"], ""), ("1/3", ["x", "y", "z"], "")),
    poly("number", ("1", ["xxx"], ""), ("-1", ["x", "xx"], ""), ("1", ["x", "x", "x"], "")),
    poly("number", ("1", ["abc", "def"], ""), ("2", ["xxxyyy"], ""), ("2", ["xyxyxy"], "")),
)
MATRICES = (
    poly("matrix", ("-3", [], "")), poly("matrix", ("1", [], "x")), poly("matrix", ("1", ["x"], "")),
    poly("matrix", ("2", ["x"], "y"), ("1", [], "xy"), ("-1", [], "yx"), ("1/2", ["xy"], ""), ("4", ["x", "y"], "")),
    poly("matrix", ("1", ["xyx"], "yz"), ("-2", ["yz"], "xx"), ("1/3", [], "zyxxy"), ("9", ["x", "x"], "yxy")),
    poly("matrix", ("1", ["x"], "xxxx"), ("1", [], "xxxxx"), ("2", ["xx", "x"], "xx"), ("1", list("xxxxx"), "")),
)
EXAMPLE = poly("number", ("5", ["x", "xy"], ""))


def ways(key, content, kind):
    """The permutations that the ways of a term make, by trying all orders of the places."""
    cycles, word = key
    text = "".join(cycles) + word
    for order in permutations(range(1, len(content) + 1)):
        if all(content[place - 1] == letter for place, letter in zip(order, text)):
            rest, image = list(order), {}
            circles = [[rest.pop(0) for _ in cycle] for cycle in cycles]
            if kind == "matrix":
                circles.append([len(content) + 1] + rest)
            for circle in circles:
                for k, place in enumerate(circle):
                    image[place] = circle[(k + 1) % len(circle)]
            yield tuple(image[place] for place in sorted(image))


class LinearizeTest(unittest.TestCase):
    def test_places(self):
        for content, number in (("", 0), ("x", 1), ("xxy", 3), ("abcdef", 6), ("aabbccd", 7)):
            self.assertEqual(places_of(content, "number"), number)
            self.assertEqual(places_of(content, "matrix"), number + 1)

    def test_example_of_point_71(self):
        self.assertEqual(shown_sum(linearize(EXAMPLE, "xxy")), [("132", "5"), ("321", "5")])

    def test_by_hand(self):
        self.assertEqual(linearize(read_poly("matrix | 2 (x) y"), "xy").perms, ((1, 3, 2),))
        self.assertEqual(shown_sum(linearize(read_poly("matrix | 2 - xy | -1 - yx"), "xy")),
                         [("231", "2"), ("312", "-1")])
        self.assertEqual(shown_sum(linearize(read_poly("number | 1 (xyz)"), "xyz")), [("231", "1")])
        self.assertEqual(shown_sum(linearize(read_poly("number | 1 (xzy)"), "xyz")), [("312", "1")])
        self.assertEqual(shown_sum(linearize(read_poly("matrix | 1 (xy) -"), "xy")), [("213", "1")])
        self.assertEqual(shown_sum(linearize(read_poly("number | 1/2 (xx)"), "xx")), [("21", "1")])

    def test_the_empty_content(self):
        self.assertEqual(shown_sum(linearize(NUMBERS[0], "")), [("", "3")])
        self.assertEqual(linearize(NUMBERS[0], "").places, 0)
        self.assertEqual(shown_sum(linearize(MATRICES[0], "")), [("1", "-3")])

    def test_all_ways_of_all_terms(self):
        for value in NUMBERS + MATRICES:
            for content in contents_in(value):
                expected = {}
                for key in value:
                    if content_of(key) == content:
                        for perm in ways(key, content, value.kind):
                            expected[perm] = expected.get(perm, 0) + fraction(value[key])
                found = linearize(value, content)
                self.assertIsInstance(found, PermSum)
                self.assertEqual(found.places, places_of(content, value.kind))
                self.assertEqual({perm: fraction(found[perm]) for perm in found}, expected)

    def test_coefficients_of_equal_permutations(self):
        # All 6 ways of the first term make the same permutation, those of the second one two of them.
        value = poly("number", ("1", ["x", "x", "x"], ""), ("1/3", ["xxx"], ""))
        self.assertEqual(shown_sum(linearize(value, "xxx")), [("123", "6"), ("231", "1"), ("312", "1")])

    def test_no_terms(self):
        for kind in KINDS:
            for content in ("", "x", "xy", "xxyyz"):
                found = linearize(poly(kind), content)
                self.assertEqual((found.perms, found.places), ((), places_of(content, kind)))
        self.assertEqual(linearize(EXAMPLE, "xy").perms, ())
        self.assertEqual(linearize(EXAMPLE, "xyy").perms, ())
        self.assertEqual(linearize(MATRICES[3], "").perms, ())

    def test_6_and_7_places(self):
        for content in ("xxxxxx", "abcdef", "xxyyzz"):
            self.assertEqual(linearize(EXAMPLE, content).places, 6)
            with self.assertRaises(TooLarge):
                linearize(MATRICES[0], content)
            with self.assertRaises(TooLarge):
                linearize(poly("matrix", ("1", [content], "")), content)
        for content in ("xxxxx", "abcde"):
            self.assertEqual(linearize(MATRICES[0], content).places, 6)
        for content in ("xxxxxxx", "abcdefg", "x" * 20):
            for value in (EXAMPLE, poly("number"), poly("matrix"), poly("number", ("1", [content], ""))):
                with self.assertRaises(TooLarge):
                    linearize(value, content)

    def test_terms_of_other_contents_may_be_long(self):
        value = EXAMPLE + poly("number", ("1", ["x" * 20], ""), ("1", ["abcdef", "abc"], ""))
        self.assertEqual(linearize(value, "xxy"), linearize(EXAMPLE, "xxy"))

    def test_example_of_the_interface(self):
        self.assertEqual(linearize(read_poly("matrix | 2 (x) y"), "xy").perms, ((1, 3, 2),))
        self.assertEqual(read_perm((2, 3, 1), "xy", "matrix"), ((), "xy"))


class ReadTest(unittest.TestCase):
    def test_by_hand(self):
        self.assertEqual(read_perm((), "", "number"), ((), ""))
        self.assertEqual(read_perm((1,), "", "matrix"), ((), ""))
        self.assertEqual(read_perm((1, 2), "x", "matrix"), (("x",), ""))
        self.assertEqual(read_perm((2, 1), "x", "matrix"), ((), "x"))
        self.assertEqual(read_perm((2, 1), "xy", "number"), (("xy",), ""))
        self.assertEqual(read_perm((1, 3, 2), "xxy", "number"), (("x", "xy"), ""))
        self.assertEqual(read_perm((3, 1, 2), "xyz", "number"), (("xzy",), ""))
        self.assertEqual(read_perm((3, 1, 2), "xy", "matrix"), ((), "yx"))
        # The mark's place, 4, is followed by 2, 1 and 3.
        self.assertEqual(read_perm((3, 1, 4, 2), "xyz", "matrix"), ((), "yxz"))
        self.assertEqual(read_perm((1, 4, 3, 2), "xyz", "matrix"), (("x", "z"), "y"))
        self.assertEqual(read_perm((5, 3, 2, 4, 1, 6), "abcde", "matrix"), (("ae", "bc", "d"), ""))

    def test_every_way_of_a_term(self):
        for value in NUMBERS + MATRICES:
            for key in value:
                content = content_of(key)
                for perm in ways(key, content, value.kind):
                    self.assertEqual(read_perm(perm, content, value.kind), key)

    def test_every_permutation_is_a_way_of_what_it_reads(self):
        for content, kind in (("xxyy", "number"), ("xyz", "matrix"), ("xxx", "matrix"), ("xxy", "matrix")):
            for perm in permutations(range(1, places_of(content, kind) + 1)):
                key = read_perm(perm, content, kind)
                self.assertEqual(content_of(key), content)
                self.assertIn(perm, ways(key, content, kind))


class RestituteTest(unittest.TestCase):
    def test_by_hand(self):
        self.assertEqual(restitute(perm_sum(2, p12="3", p21="-1"), "xy", "number"),
                         poly("number", ("3", ["x", "y"], ""), ("-1", ["xy"], "")))
        self.assertEqual(restitute(perm_sum(2, p12="3", p21="-1"), "xx", "number"),
                         poly("number", ("3/2", ["x", "x"], ""), ("-1/2", ["xx"], "")))
        self.assertEqual(restitute(perm_sum(2, p12="3", p21="-1"), "x", "matrix"),
                         poly("matrix", ("3", ["x"], ""), ("-1", [], "x")))
        self.assertEqual(restitute(perm_sum(5, p23451="8"), "xxyy", "matrix"), poly("matrix", ("2", [], "xxyy")))
        self.assertEqual(restitute(perm_sum(5, p23451="12"), "xxxyy", "number"), poly("number", ("1", ["xxxyy"], "")))
        self.assertEqual(restitute(perm_sum(0, p="7"), "", "number"), poly("number", ("7", [], "")))
        self.assertEqual(restitute(perm_sum(1, p1="7"), "", "matrix"), poly("matrix", ("7", [], "")))

    def test_terms_with_the_same_key(self):
        self.assertEqual(restitute(perm_sum(3, p132="5", p321="1"), "xxy", "number"),
                         poly("number", ("3", ["x", "xy"], "")))
        self.assertEqual(restitute(perm_sum(3, p231="1", p312="1"), "xxx", "number"),
                         poly("number", ("1/3", ["xxx"], "")))

    def test_coefficients_that_cancel(self):
        self.assertEqual(restitute(perm_sum(3, p132="5", p321="-5"), "xxy", "number"), poly("number"))
        self.assertEqual(restitute(perm_sum(3, p231="1", p312="-1", p123="6"), "xxx", "number"),
                         poly("number", ("1", ["x", "x", "x"], "")))

    def test_no_permutations(self):
        for content in ("", "xx", "xyz"):
            for kind in KINDS:
                self.assertEqual(restitute(PermSum(places_of(content, kind), []), content, kind), poly(kind))

    def test_linearize_and_restitute(self):
        for value in NUMBERS + MATRICES:
            for content in contents_in(value) + ["", "x", "ab"]:
                found = restitute(linearize(value, content), content, value.kind)
                self.assertEqual(found, part_of(value, content))
                self.assertEqual(found.kind, value.kind)

    def test_wrong_size(self):
        for places, content, kind in ((1, "", "number"), (0, "", "matrix"), (2, "", "matrix"), (2, "xyz", "number"),
                                      (4, "xyz", "number"), (3, "xyz", "matrix"), (5, "xyz", "matrix"),
                                      (0, "xy", "number"), (2, "xx", "matrix"), (3, "xx", "number")):
            for terms in ([], [(tuple(range(1, places + 1)), Ratio(1))]):
                with self.assertRaises(WrongSize):
                    restitute(PermSum(places, terms), content, kind)


if __name__ == "__main__":
    unittest.main()
