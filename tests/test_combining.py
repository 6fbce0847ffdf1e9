import unittest
from itertools import permutations

from helpers import (KINDS, NO_SIZES, SIZES, drawn_poly, drawn_polys, is_zero_somewhere, law, poly, ratio,
                     some_matrices, zero_polys)

from tablelaws.combining import Combination, combine, independent, trace_free, words_of
from tablelaws.errors import TooLarge, WrongKind, WrongSize
from tablelaws.evaluating import value_at
from tablelaws.normalforms import is_zero
from tablelaws.notation import read_poly
from tablelaws.parts import contents_in, part_of
from tablelaws.polys import Poly
from tablelaws.probes import Probe, probe_of, probes_of
from tablelaws.ratios import Ratio

X, Y = Poly.letter("x"), Poly.letter("y")
XY, YX = X * Y, Y * X
LONG = poly("matrix", ("1", [], "xxxxxx"))
LONG_NUMBER = poly("number", ("1", ["xxxxxxx"], ""))
ONE, ZERO = Ratio(1), Ratio(0)


def word(text):
    return poly("matrix", ("1", [], text))


def total_of(factors, polys, kind):
    total = Poly(kind, [])
    for factor, value in zip(factors, polys):
        total = total + value.scaled(factor)
    return total


def shown(ratios):
    return [str(value) for value in ratios]


class CombineCase(unittest.TestCase):
    def assert_possible(self, size, value, others, factors=None):
        found = combine(size, value, others)
        self.assertIsInstance(found, Combination)
        self.assertIs(found.possible, True)
        self.assertIs(bool(found), True)
        self.assertIsNone(found.test)
        self.assertIsInstance(found.factors, tuple)
        self.assertEqual(len(found.factors), len(others))
        self.assertTrue(all(isinstance(factor, Ratio) for factor in found.factors))
        self.assertTrue(is_zero(size, value - total_of(found.factors, others, value.kind)))
        for k, other in enumerate(others):
            if combine(size, other, others[:k]).possible:
                self.assertEqual(found.factors[k], ZERO)
        if factors is not None:
            self.assertEqual(shown(found.factors), factors)
        self.assertEqual(found.tested(value), ZERO)

    def assert_impossible(self, size, value, others):
        found = combine(size, value, others)
        self.assertIsInstance(found, Combination)
        self.assertIs(found.possible, False)
        self.assertIs(bool(found), False)
        self.assertIsNone(found.factors)
        self.assert_test(size, found.test, value, others)
        for other in others:
            self.assertEqual(found.tested(other), ZERO)
        self.assertEqual(found.tested(value), ONE)
        self.assertEqual(found.tested(value + value), ONE + ONE)
        return found

    def assert_test(self, size, test, value, others):
        self.assertIsInstance(test, tuple)
        self.assertLessEqual(len(test), len(others) + 1)
        contents = [content for other in others + [value] for content in contents_in(other)]
        for part in test:
            self.assertIsInstance(part, tuple)
            factor, probe = part
            self.assertIsInstance(factor, Ratio)
            self.assertIsInstance(probe, Probe)
            self.assertIn(probe.content, contents)
            self.assertIn(probe, probes_of(size, probe.content, value.kind))
        for other, expected in [(other, ZERO) for other in others] + [(value, ONE)]:
            total = ZERO
            for factor, probe in test:
                total = total + factor * probe(other)
            self.assertEqual(total, expected)


class CombinationTest(CombineCase):
    def test_it_stores_its_arguments(self):
        found = Combination(True, (ONE,), None)
        self.assertEqual((found.possible, found.factors, found.test), (True, (ONE,), None))
        self.assertIs(bool(found), True)
        test = ((Ratio(3), probe_of(2, "xy", "number", (2, 1))), (Ratio(-1, 2), probe_of(2, "x", "number", (1,))))
        found = Combination(False, None, test)
        self.assertEqual((found.possible, found.factors, found.test), (False, None, test))
        self.assertIs(bool(found), False)

    def test_tested(self):
        test = ((Ratio(3), probe_of(2, "xy", "number", (2, 1))), (Ratio(-1, 2), probe_of(2, "x", "number", (1,))))
        found = Combination(False, None, test)
        value = poly("number", ("5", ["xy"], ""), ("7", ["x", "y"], ""), ("1", ["x"], ""))
        self.assertEqual(found.tested(value), Ratio(29, 2))
        self.assertEqual(found.tested(poly("number")), ZERO)
        with self.assertRaises(WrongKind):
            found.tested(poly("matrix"))
        for value in (poly("number"), poly("matrix"), XY, LONG):
            self.assertEqual(Combination(True, (), None).tested(value), ZERO)
        self.assertEqual(Combination(False, None, ()).tested(XY), ZERO)


class CombineTest(CombineCase):
    def test_example(self):
        self.assertEqual(shown(combine(1, YX, [XY, XY]).factors), ["1", "0"])

    def test_by_hand(self):
        self.assert_possible(1, YX, [XY, XY], ["1", "0"])
        self.assert_impossible(2, YX, [XY, XY])
        # The law of Cayley and Hamilton gives x x from x and the identity matrix, with traces.
        traces = [poly("matrix", ("1", ["x"], "x")), poly("matrix", ("1", ["x", "x"], "")),
                  poly("matrix", ("1", ["xx"], ""))]
        self.assert_possible(2, X * X, traces, ["1", "-1/2", "1/2"])
        self.assert_possible(1, X * X, traces, ["1", "0", "0"])
        self.assert_impossible(3, X * X, traces)
        self.assert_possible(2, X.scaled(ratio("3/2")), [poly("matrix"), X.scaled(Ratio(2)), Y, X],
                             ["0", "3/4", "0", "0"])
        self.assert_possible(3, X + Y, [X - Y, X + Y + Y], ["1/3", "2/3"])

    def test_the_empty_list(self):
        for size in SIZES:
            for kind in KINDS:
                self.assert_possible(size, Poly(kind, []), [], [])
                found = self.assert_impossible(size, poly(kind, ("5", [], "")), [])
                self.assertEqual(len(found.test), 1)
            for value in zero_polys(size):
                self.assert_possible(size, value, [], [])

    def test_polynomials_without_terms(self):
        for size in SIZES:
            for kind in KINDS:
                nothing = Poly(kind, [])
                letter = poly(kind, ("1", ["x"], ""))
                self.assert_possible(size, nothing, [nothing, letter, nothing], ["0", "0", "0"])
                self.assert_possible(size, letter, [nothing, letter, letter], ["0", "1", "0"])
                self.assert_impossible(size, letter, [nothing, nothing])

    def test_factors_that_are_0(self):
        """A polynomial that earlier ones combine to gets the factor 0."""
        others = [X, Y, X + Y, X - Y, XY]
        for size in SIZES:
            value = X.scaled(Ratio(2)) + Y.scaled(Ratio(-3)) + XY
            self.assert_possible(size, value, others, ["2", "-3", "0", "0", "1"])
            self.assert_possible(size, X + Y, [X + Y, X, Y], ["1", "0", "0"])
            self.assert_possible(size, Y, [X + Y, X, Y], ["1", "-1", "0"])
        for size in SIZES:
            zeros = [value for value in zero_polys(size) if value.kind == "matrix"]
            self.assert_possible(size, X, zeros[:3] + [X.scaled(Ratio(1, 2)) + zeros[0], X], ["0", "0", "0", "2", "0"])

    def test_several_contents(self):
        first = poly("number", ("1", ["x"], ""), ("2", ["yy"], ""), ("3", [], ""))
        second = poly("number", ("1", ["x"], ""), ("-2", ["y", "y"], ""))
        third = poly("number", ("1", ["yy"], ""), ("1", ["z"], ""))
        for size in SIZES:
            self.assert_possible(size, first.scaled(Ratio(2)) + second - third.scaled(Ratio(1, 3)),
                                 [first, second, third], ["2", "1", "-1/3"])
            self.assert_impossible(size, first + poly("number", ("1", ["z"], "")), [first, second, third])
            self.assert_impossible(size, poly("number", ("1", [], "")), [first, second, third])
        # At size 1 the two words of y are equal.
        self.assert_possible(1, poly("number", ("2", ["x"], ""), ("3", [], "")), [first, second], ["1", "1"])
        self.assert_impossible(2, poly("number", ("2", ["x"], ""), ("3", [], "")), [first, second])

    def test_drawn(self):
        for size in SIZES:
            for kind in KINDS:
                polys = [drawn_poly(kind, "xy", 3, 5, seed) for seed in range(20, 27)]
                factors = [Ratio(k - 3, 2) for k in range(7)]
                self.assert_possible(size, total_of(factors, polys, kind), polys)
                self.assert_possible(size, polys[2] - polys[4], polys[2:] + polys[:2])
                more = drawn_poly(kind, "xyz", 3, 5, 40)
                self.assert_impossible(size, more, polys)
                self.assert_impossible(size, more + polys[0], polys + [polys[0] - polys[1]])

    def test_alike_polynomials(self):
        for size in SIZES:
            for zero in zero_polys(size)[:9]:
                polys = [value for value in drawn_polys(3) if value.kind == zero.kind][:4]
                self.assert_possible(size, polys[0] + zero - polys[1], polys)
                self.assert_possible(size, zero + polys[3], [polys[1] + zero, zero, polys[3], polys[1]])

    def test_many_cells(self):
        """Terms of one content in which the probes of good permutations see several of them."""
        for size, content in ((2, "wxyz"), (3, "vwxyz")):
            terms = [poly("number", ("1", list(pieces), "")) for pieces in
                     (content, [content], [content[::-1]], [content[:2], content[2:]], [content[::2], content[1::2]],
                      [content[0], content[1:]], [content[:0:-1], content[0]])]
            for value in terms:
                others = [other for other in terms if other is not value]
                self.assert_impossible(size, value, others)
            self.assert_impossible(size, terms[2], [terms[0] + terms[1], terms[1] + terms[2], terms[2] - terms[3]])

    def test_6_places(self):
        value = law("number", "ab", "cd", "ef")
        parts = [Poly("number", [(key[0], "", value[key])]) for key in value]
        self.assert_possible(2, parts[0], parts[1:], ["-1"] * 5)
        self.assert_impossible(3, parts[0], parts[1:])
        self.assert_impossible(2, parts[0], parts[2:])

    def test_the_arguments_stay(self):
        others = [XY, YX]
        combine(2, X, others)
        independent(2, others)
        self.assertEqual(others, [XY, YX])

    def test_errors(self):
        number = poly("number", ("1", ["x"], ""))
        for size in NO_SIZES:
            for value, others in ((X, []), (X, [number]), (LONG, [X]), (LONG, [number]), (X, [X, LONG_NUMBER])):
                with self.assertRaises(WrongSize):
                    combine(size, value, others)
                with self.assertRaises(WrongSize):
                    independent(size, others + [value])
        for size in SIZES:
            for value, others in ((X, [number]), (number, [X]), (X, [X, number]), (number, [X, X]), (LONG, [number]),
                                  (X, [LONG, number]), (number, [LONG]), (poly("number"), [poly("matrix")])):
                with self.assertRaises(WrongKind):
                    combine(size, value, others)
                with self.assertRaises(WrongKind):
                    independent(size, others + [value])
                with self.assertRaises(WrongKind):
                    independent(size, [value] + others)
            for value, others in ((LONG, []), (LONG, [X]), (X, [X, LONG]), (X, [LONG, X]), (X + LONG, [LONG]),
                                  (number, [LONG_NUMBER])):
                with self.assertRaises(TooLarge):
                    combine(size, value, others)
                with self.assertRaises(TooLarge):
                    independent(size, others + [value])


class IndependentTest(unittest.TestCase):
    def test_by_hand(self):
        self.assertEqual(independent(1, [XY, YX, X, Y, X + Y]), [0, 2, 3])
        self.assertEqual(independent(2, [XY, YX, X, Y, X + Y]), [0, 1, 2, 3])
        self.assertEqual(independent(2, [poly("matrix"), X, X.scaled(Ratio(5)), XY + X, XY]), [1, 3])
        self.assertEqual(independent(2, [X + Y, X - Y, X, Y]), [0, 1])
        for size in SIZES:
            self.assertEqual(independent(size, []), [])
            self.assertEqual(independent(size, [poly("number")]), [])
            self.assertEqual(independent(size, zero_polys(size)[-1:]), [])
            self.assertEqual(independent(size, [poly("number", ("1", ["x"], ""))]), [0])

    def test_it_agrees_with_combine(self):
        for size in SIZES:
            for kind in KINDS:
                polys = [drawn_poly(kind, "xy", 2, 2, seed) for seed in range(9)]
                expected = [k for k in range(9) if not combine(size, polys[k], polys[:k])]
                self.assertEqual(independent(size, polys), expected)
                self.assertIsInstance(independent(size, polys), list)


class WordsTest(unittest.TestCase):
    def test_all_words(self):
        for content in ("", "x", "xx", "xy", "xxy", "xyz", "xxyy", "wxyz", "aabbc", "xxxxxx", "abcdef"):
            expected = sorted({"".join(letters) for letters in permutations(content)})
            self.assertEqual(words_of(content), expected)
            self.assertIsInstance(words_of(content), list)

    def test_by_hand(self):
        self.assertEqual(words_of("xxy"), ["xxy", "xyx", "yxx"])
        self.assertEqual(words_of(""), [""])

    def test_results_are_new(self):
        words_of("xy").clear()
        words_of("").clear()
        self.assertEqual((words_of("xy"), words_of("")), (["xy", "yx"], [""]))


class TraceFreeTest(CombineCase):
    def assert_free(self, size, value):
        found = trace_free(size, value)
        self.assertIsInstance(found, tuple)
        free, test = found
        self.assertIsNone(test)
        self.assertEqual(free.kind, "matrix")
        self.assertTrue(all(cycles == () for cycles, _ in free))
        self.assertTrue(is_zero(size, free - value))
        matrices = some_matrices(value.used_letters(), size)
        self.assertEqual(value_at(free, size, {**some_matrices("abuvwxyz", size), **matrices}),
                         value_at(value, size, matrices))
        return free

    def assert_not_free(self, size, value):
        found = trace_free(size, value)
        self.assertIsInstance(found, tuple)
        self.assertIsNone(found[0])
        for content in contents_in(value):
            part = part_of(value, content)
            words = [word(text) for text in words_of(content)]
            if not combine(size, part, words).possible:
                self.assert_test(size, found[1], part, words)
                self.assertTrue(all(probe.content == content for _, probe in found[1]))
                # The other parts of the polynomial do not count.
                self.assert_test(size, found[1], value, words)
                return
        self.fail("all parts are combinations")

    def test_polynomials_without_cyclic_words(self):
        for size in SIZES:
            for value in (X, XY, XY - YX, poly("matrix"), poly("matrix", ("3", [], "")), word("xyxy") + word("xx") + X):
                self.assert_free(size, value)
        value = word("xyxz") - word("zyxx").scaled(Ratio(1, 2)) + X
        self.assertEqual(trace_free(3, value)[0], value)
        self.assertEqual(trace_free(2, XY - YX)[0], XY - YX)
        self.assertEqual(trace_free(1, XY - YX)[0], poly("matrix"))
        self.assertEqual(trace_free(1, YX.scaled(Ratio(3)))[0], XY.scaled(Ratio(3)))

    def test_traces_that_can_be_removed(self):
        # At size 1 a trace is the matrix itself.
        value = poly("matrix", ("2", ["x"], "y"), ("5", ["y"], ""), ("1", [], ""))
        self.assertEqual(self.assert_free(1, value), poly("matrix", ("2", [], "xy"), ("5", [], "y"), ("1", [], "")))
        self.assert_not_free(2, value)
        # By the law of Cayley and Hamilton for x + y: xy + yx - tr(x) y - tr(y) x + tr(x) tr(y) - tr(xy).
        value = law("matrix", "x", "y") - XY - YX
        self.assertEqual(self.assert_free(2, value), -XY - YX)
        self.assert_not_free(3, value)
        self.assert_free(1, value)
        # The square of the commutator is half its trace at size 2.
        value = poly("matrix", ("1", ["xyxy"], ""), ("-1", ["xxyy"], ""))
        free = self.assert_free(2, value)
        self.assertEqual(free.used_letters(), "xy")
        self.assert_not_free(3, value)

    def test_each_part_by_itself(self):
        for size in (2, 3):
            value = word("xy") + poly("matrix", ("1", ["x"], "z")) + poly("matrix", ("1", ["y"], "z"))
            self.assert_not_free(size, value)
            self.assert_not_free(size, value + poly("matrix", ("7", ["a"], "")) + word(""))
        found = trace_free(2, poly("matrix", ("1", ["y"], ""), ("1", ["x"], "x"), ("1", [], "x")))[1]
        self.assertEqual({probe.content for _, probe in found}, {"xx"})

    def test_repeated_letters_and_the_empty_content(self):
        value = poly("matrix", ("1/2", [], "")) + word("xxyx").scaled(Ratio(2)) + law("matrix", "x", "x") * word("x")
        self.assertEqual(self.assert_free(2, value), poly("matrix", ("1/2", [], ""), ("2", [], "xxyx")))
        self.assert_not_free(3, value)

    def test_without_terms(self):
        for size in SIZES:
            self.assertEqual(trace_free(size, poly("matrix")), (poly("matrix"), None))
            for value in zero_polys(size):
                if value.kind == "matrix" and value.degree < 5:
                    self.assertEqual(trace_free(size, value), (poly("matrix"), None))

    def test_factors_of_the_words(self):
        # At size 2 the words of 4 different letters have one law; the last of them gets the factor 0.
        value = read_poly("matrix | 1 - zyxw")
        free = self.assert_free(2, value)
        self.assertEqual(len(free), 23)
        self.assertNotIn(((), "zyxw"), free)
        self.assertFalse(is_zero_somewhere(free, 2))
        self.assertEqual(trace_free(3, value)[0], value)

    def test_errors(self):
        number = poly("number", ("1", ["x"], ""))
        five = word("xxxxx")
        for size in NO_SIZES:
            for value in (X, number, five, LONG_NUMBER):
                with self.assertRaises(WrongSize):
                    trace_free(size, value)
        for size in SIZES:
            for value in (number, poly("number"), LONG_NUMBER):
                with self.assertRaises(WrongKind):
                    trace_free(size, value)
            for value in (five, five + X, poly("matrix", ("1", list("abcde"), "")), LONG):
                with self.assertRaises(TooLarge):
                    trace_free(size, value)


if __name__ == "__main__":
    unittest.main()
