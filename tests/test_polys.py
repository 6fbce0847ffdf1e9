import unittest

from helpers import plain, poly, poly_value, some_matrices, table_plus, table_scaled, table_times, table_trace

from tablelaws.errors import WrongKind
from tablelaws.permsums import PermSum
from tablelaws.polys import Poly
from tablelaws.ratios import Ratio


def shown(value):
    return [(key, str(value[key])) for key in value.terms]


NUMBERS = (poly("number"), poly("number", ("3", [], "")), poly("number", ("1", ["x"], ""), ("-1/2", ["xy"], "")),
           poly("number", ("2", ["x", "yx"], ""), ("1", ["y"], ""), ("5", [], "")))
MATRICES = (poly("matrix"), poly("matrix", ("1", [], "")), poly("matrix", ("1", [], "xy"), ("-1", [], "yx")),
            poly("matrix", ("2/3", ["xxy"], "y"), ("1", ["y"], ""), ("-4", [], "x")))
ALL = NUMBERS + MATRICES


class CreationTest(unittest.TestCase):
    def test_attributes(self):
        value = poly("matrix", ("2", ["yx", "x"], "yx"), ("1", [], "x"))
        self.assertEqual(value.kind, "matrix")
        self.assertEqual(value.terms, (((), "x"), (("x", "xy"), "yx")))
        self.assertEqual(shown(value), [(((), "x"), "1"), ((("x", "xy"), "yx"), "2")])

    def test_cycles_as_lists_and_tuples(self):
        self.assertEqual(poly("number", ("1", ("yx", "x"), "")), poly("number", ("1", ["x", "xy"], "")))

    def test_terms_with_the_same_key(self):
        value = poly("number", ("1", ["xxy", "y"], ""), ("1/2", ["y", "yxx"], ""), ("1/3", ("xyx", "y"), ""))
        self.assertEqual(shown(value), [((("xxy", "y"), ""), "11/6")])

    def test_terms_that_cancel(self):
        value = poly("number", ("1", ["xy"], ""), ("0", ["x"], ""), ("-1", ["yx"], ""), ("2", ["y"], ""))
        self.assertEqual(value.terms, ((("y",), ""),))
        self.assertEqual(poly("matrix", ("0", [], "x")).terms, ())
        self.assertEqual(poly("matrix").terms, ())

    def test_order_of_the_keys(self):
        value = poly("matrix", ("1", ["y"], ""), ("1", ["xy"], "x"), ("1", [], "yx"), ("1", ["x"], "z"),
                     ("1", ["x", "x"], ""), ("1", [], ""), ("1", ["x"], "xx"), ("1", [], "xyy"))
        self.assertEqual(value.terms, (((), ""), ((), "xyy"), ((), "yx"), (("x",), "xx"), (("x",), "z"),
                                       (("x", "x"), ""), (("xy",), "x"), (("y",), "")))
        self.assertEqual(list(value), list(value.terms))

    def test_items(self):
        value = poly("matrix", ("2", ["x", "xy"], "yx"), ("-1/3", [], ""))
        self.assertEqual(str(value[("x", "xy"), "yx"]), "2")
        self.assertEqual(str(value[(), ""]), "-1/3")
        self.assertEqual((len(value), len(poly("number"))), (2, 0))
        self.assertIs((("x", "xy"), "yx") in value, True)
        for key in ((("x", "yx"), "yx"), (("xy", "x"), "yx"), (("x", "xy"), "xy"), ((), "x"), (("x",), "")):
            self.assertIs(key in value, False)
            self.assertIsInstance(value[key], Ratio)
            self.assertEqual(str(value[key]), "0")

    def test_number_with_a_word(self):
        for terms in ([("1", [], "x")], [("0", [], "x")], [("1", ["x"], ""), ("1", ["x"], "xy")],
                      [("1", [], "x"), ("-1", [], "x")]):
            with self.assertRaises(WrongKind):
                poly("number", *terms)

    def test_lists_that_are_changed_afterwards(self):
        cycles = ["x"]
        terms = [(cycles, "y", Ratio(1))]
        value = Poly("matrix", terms)
        cycles.append("z")
        terms.append(([], "z", Ratio(5)))
        self.assertEqual(shown(value), [((("x",), "y"), "1")])

    def test_degree(self):
        for value, degree in zip(ALL, (0, 0, 2, 3, 0, 0, 2, 4)):
            self.assertEqual(value.degree, degree)
        self.assertEqual(poly("matrix", ("1", [], "xyx"), ("1", ["xy"], "yx")).degree, 4)
        self.assertEqual(poly("number", ("1", ["xyxxy"], ""), ("-1", ["yxyxx"], ""), ("1", ["y"], "")).degree, 1)

    def test_used_letters(self):
        self.assertEqual([value.used_letters() for value in ALL], ["", "", "xy", "xy", "", "", "xy", "xy"])
        self.assertEqual(poly("matrix", ("1", ["zb"], "a"), ("1", [], "bya"), ("0", [], "q")).used_letters(), "abyz")

    def test_letter_and_constant(self):
        self.assertEqual((Poly.letter("b").kind, shown(Poly.letter("b"))), ("matrix", [(((), "b"), "1")]))
        for kind in ("number", "matrix"):
            value = Poly.constant(kind, Ratio(-2, 3))
            self.assertEqual((value.kind, shown(value)), (kind, [(((), ""), "-2/3")]))
            self.assertEqual((Poly.constant(kind, Ratio(0)).kind, Poly.constant(kind, Ratio(0)).terms), (kind, ()))


class OperatorTest(unittest.TestCase):
    def assert_values(self, value, expected):
        """Compares the values at some matrices with what a function of (size, matrices) gives."""
        for size in (1, 2, 3):
            matrices = some_matrices("xyz", size, seed=size)
            self.assertEqual(poly_value(value, size, matrices), expected(size, matrices))

    def test_sum_and_difference(self):
        first = poly("number", ("1", ["x"], ""), ("2", ["xy"], ""))
        second = poly("number", ("1/2", ["yx"], ""), ("-1", ["x"], ""), ("7", [], ""))
        self.assertEqual(shown(first + second), [(((), ""), "7"), ((("xy",), ""), "5/2")])
        self.assertEqual(shown(first - second), [(((), ""), "-7"), ((("x",), ""), "2"), ((("xy",), ""), "3/2")])
        self.assertEqual((first - first).terms, ())

    def test_kinds_that_differ(self):
        for first in NUMBERS:
            for second in MATRICES:
                for action in (lambda: first + second, lambda: first - second, lambda: second + first,
                               lambda: second - first):
                    with self.assertRaises(WrongKind):
                        action()

    def test_kinds_of_results(self):
        for values, kind in ((NUMBERS, "number"), (MATRICES, "matrix")):
            for first in values:
                self.assertEqual((-first).kind, kind)
                self.assertEqual(first.scaled(Ratio(0)).kind, kind)
                self.assertEqual(first.power(0).kind, kind)
                self.assertEqual(first.power(2).kind, kind)
                for second in values:
                    self.assertEqual((first + second).kind, kind)
                    self.assertEqual((first - second).kind, kind)

    def test_products_of_both_kinds(self):
        for first in ALL:
            for second in ALL:
                kind = "number" if first in NUMBERS and second in NUMBERS else "matrix"
                self.assertEqual((first * second).kind, kind)

    def test_product_keys(self):
        first = poly("matrix", ("2", ["yx", "a"], "xy"))
        second = poly("matrix", ("-1/2", ["b", "xy"], "zx"))
        self.assertEqual(shown(first * second), [((("a", "b", "xy", "xy"), "xyzx"), "-1")])
        self.assertEqual(shown(second * first), [((("a", "b", "xy", "xy"), "zxxy"), "-1")])

    def test_product_of_sums(self):
        x, y = Poly.letter("x"), Poly.letter("y")
        self.assertEqual(shown((x + y) * (x - y)), [(((), "xx"), "1"), (((), "xy"), "-1"), (((), "yx"), "1"),
                                                    (((), "yy"), "-1")])

    def test_values_of_products(self):
        for first in ALL:
            for second in ALL:
                def expected(size, matrices):
                    a, b = poly_value(first, size, matrices), poly_value(second, size, matrices)
                    if isinstance(a, list) and isinstance(b, list):
                        return table_times(a, b)
                    if isinstance(a, list):
                        return table_scaled(b, a)
                    return table_scaled(a, b) if isinstance(b, list) else a * b
                self.assert_values(first * second, expected)

    def test_values_of_sums(self):
        for first in MATRICES:
            for second in MATRICES:
                self.assert_values(first + second, lambda size, matrices: table_plus(
                    poly_value(first, size, matrices), poly_value(second, size, matrices)))

    def test_negative_and_scaled(self):
        value = poly("matrix", ("2", ["x"], "y"), ("-1/3", [], ""))
        self.assertEqual(shown(-value), [(((), ""), "1/3"), ((("x",), "y"), "-2")])
        self.assertEqual(shown(value.scaled(Ratio(-3, 2))), [(((), ""), "1/2"), ((("x",), "y"), "-3")])
        self.assertEqual(shown(value.scaled(Ratio(0))), [])

    def test_power(self):
        for value in ALL:
            expected = Poly.constant(value.kind, Ratio(1))
            for exponent in range(4):
                self.assertEqual(value.power(exponent), expected)
                expected = expected * value

    def test_power_with_exponent_0(self):
        for value in ALL:
            self.assertEqual(shown(value.power(0)), [(((), ""), "1")])
        self.assertEqual(shown(Poly.letter("x").power(12)), [(((), "x" * 12), "1")])

    def test_equality(self):
        for j, first in enumerate(ALL):
            for k, second in enumerate(ALL):
                self.assertIs(first == second, j == k)
                self.assertIs(first != second, j != k)
        self.assertIs(poly("number", ("1", ["xy"], "")) == poly("number", ("2/2", ["yx"], "")), True)
        self.assertIs(poly("number", ("1", ["xy"], "")) == poly("number", ("2", ["xy"], "")), False)
        self.assertIs(poly("number", ("1", ["x"], "")) == poly("matrix", ("1", ["x"], "")), False)

    def test_equality_with_other_objects(self):
        for other in (None, 0, (), "number", {}, Ratio(0), PermSum(0, [])):
            self.assertIs(poly("number") == other, False)
            self.assertIs(other == poly("number"), False)

    def test_arguments_stay(self):
        first, second = MATRICES[2], MATRICES[3]
        before = shown(first), shown(second)
        for _ in (first + second, first - second, first * second, -first, first.scaled(Ratio(2)), first.power(2),
                  first.traced(2), first.degree, first.used_letters(), first == second):
            self.assertEqual((shown(first), shown(second)), before)


class TraceTest(unittest.TestCase):
    def test_trace(self):
        value = poly("matrix", ("2", ["z"], "yx"), ("1/2", [], "xy"), ("5", ["xy"], "z"))
        self.assertEqual(shown(value.traced(2)), [((("xy",), ""), "1/2"), ((("xy", "z"), ""), "7")])
        self.assertEqual(value.traced(2).kind, "number")

    def test_empty_words(self):
        value = poly("matrix", ("2/3", ["x"], ""), ("1", [], ""), ("1", [], "x"))
        for size, texts in ((1, ("1", "5/3")), (2, ("2", "7/3")), (3, ("3", "3"))):
            self.assertEqual(shown(value.traced(size)), [(((), ""), texts[0]), ((("x",), ""), texts[1])])

    def test_trace_that_cancels(self):
        self.assertEqual(poly("matrix", ("1", [], "xy"), ("-1", [], "yx")).traced(3).terms, ())
        self.assertEqual(poly("matrix", ("1", [], "x"), ("-1/2", ["x"], "")).traced(2).terms, ())
        self.assertEqual((poly("matrix").traced(2).kind, poly("matrix").traced(2).terms), ("number", ()))

    def test_values(self):
        for value in MATRICES:
            for size in (1, 2, 3):
                matrices = some_matrices("xyz", size)
                self.assertEqual(poly_value(value.traced(size), size, matrices),
                                 table_trace(poly_value(value, size, matrices)))

    def test_wrong_kind(self):
        for value in NUMBERS:
            with self.assertRaises(WrongKind):
                value.traced(2)


class HelperTest(unittest.TestCase):
    def test_value_by_hand(self):
        """The helper poly_value agrees with matrices that are multiplied by the program."""
        matrices = some_matrices("xy", 2)
        x, y = matrices["x"], matrices["y"]
        value = poly("matrix", ("3", ["xy"], "yx"), ("-1", [], ""))
        expected = (y * x).scaled(Ratio(3) * (x * y).trace()) - x.one(2)
        self.assertEqual(poly_value(value, 2, matrices), plain(expected))


if __name__ == "__main__":
    unittest.main()
