import unittest

from helpers import NO_SIZES, SIZES, plain, poly, poly_value, ratio, some_matrices

from tablelaws.errors import WrongSize
from tablelaws.expanding import expand, expand_steps
from tablelaws.polys import Poly
from tablelaws.programs import Program
from tablelaws.ratios import Ratio
from tablelaws.running import run_steps

STEPS = [
    ("letter", "x"), ("letter", "y"), ("one",), ("const", ratio("-2/3")),
    ("sum", 0, 1), ("diff", 0, 1), ("times", 0, 1), ("times", 1, 0),
    ("scale", ratio("5/2"), 6), ("trace", 6), ("power", 4, 3), ("power", 9, 2),
    ("times", 3, 6), ("times", 6, 3), ("times", 3, 9), ("sum", 3, 9), ("diff", 3, 9),
    ("scale", ratio("-1/2"), 9), ("power", 0, 0), ("power", 3, 0), ("power", 4, 1), ("trace", 2),
    ("diff", 6, 7), ("times", 22, 10), ("trace", 23), ("scale", Ratio(0), 6), ("times", 16, 5), ("sum", 2, 10),
    ("trace", 27), ("const", Ratio(0)), ("times", 24, 15), ("diff", 28, 21), ("times", 9, 23),
]


def expected_polys(size):
    """The polynomials of the first 22 of these steps, by hand."""
    third, x, y = "-2/3", ("1", [], "x"), ("1", [], "y")
    words = [("1", [], a + b + c) for a in "xy" for b in "xy" for c in "xy"]
    return [
        poly("matrix", x), poly("matrix", y), poly("matrix", ("1", [], "")), poly("number", (third, [], "")),
        poly("matrix", x, y), poly("matrix", x, ("-1", [], "y")), poly("matrix", ("1", [], "xy")),
        poly("matrix", ("1", [], "yx")),
        poly("matrix", ("5/2", [], "xy")), poly("number", ("1", ["xy"], "")), poly("matrix", *words),
        poly("number", ("1", ["xy", "xy"], "")),
        poly("matrix", (third, [], "xy")), poly("matrix", (third, [], "xy")), poly("number", (third, ["xy"], "")),
        poly("number", (third, [], ""), ("1", ["xy"], "")), poly("number", (third, [], ""), ("-1", ["xy"], "")),
        poly("number", ("-1/2", ["xy"], "")), poly("matrix", ("1", [], "")), poly("number", ("1", [], "")),
        poly("matrix", x, y), poly("number", (str(size), [], "")),
    ]


class ExpandingTest(unittest.TestCase):
    def test_each_kind_of_step(self):
        program = Program("xy", STEPS, 0)
        for size in SIZES:
            polys = expand_steps(program, size)
            self.assertIsInstance(polys, list)
            self.assertEqual(len(polys), len(STEPS))
            for number, expected in enumerate(expected_polys(size)):
                self.assertEqual(polys[number], expected, STEPS[number])
            self.assertEqual(tuple(value.kind for value in polys), program.kinds)

    def test_the_order_of_products_and_differences(self):
        steps = [("letter", "x"), ("letter", "y"), ("times", 1, 0), ("diff", 1, 0), ("times", 2, 3)]
        self.assertEqual(expand(Program("xy", steps, 2), 2), poly("matrix", ("1", [], "yx")))
        self.assertEqual(expand(Program("xy", steps, 3), 2), poly("matrix", ("1", [], "y"), ("-1", [], "x")))
        self.assertEqual(expand(Program("xy", steps, 4), 2), poly("matrix", ("1", [], "yxy"), ("-1", [], "yxx")))

    def test_result(self):
        for size in SIZES:
            for result in range(len(STEPS)):
                program = Program("xy", STEPS, result)
                self.assertEqual(expand(program, size), expand_steps(program, size)[result])

    def test_power_0(self):
        steps = [("letter", "x"), ("power", 0, 0), ("scale", Ratio(0), 0), ("power", 2, 0), ("const", Ratio(0)),
                 ("power", 4, 0), ("trace", 1)]
        for size in SIZES:
            polys = expand_steps(Program("x", steps, 0), size)
            self.assertEqual(polys[1], poly("matrix", ("1", [], "")))
            self.assertEqual(polys[2], poly("matrix"))
            self.assertEqual(polys[3], poly("matrix", ("1", [], "")))
            self.assertEqual(polys[4], poly("number"))
            self.assertEqual(polys[5], poly("number", ("1", [], "")))
            self.assertEqual(polys[6], poly("number", (str(size), [], "")))

    def test_powers(self):
        for exponent in range(7):
            steps = [("letter", "x"), ("power", 0, exponent), ("trace", 0), ("power", 2, exponent)]
            polys = expand_steps(Program("x", steps, 0), 2)
            self.assertEqual(polys[1], poly("matrix", ("1", [], "x" * exponent)))
            self.assertEqual(polys[3], poly("number", ("1", ["x"] * exponent, "")))

    def test_trace_of_the_identity_matrix(self):
        steps = [("one",), ("trace", 0), ("scale", ratio("-1/2"), 0), ("trace", 2), ("times", 1, 1)]
        for size in SIZES:
            polys = expand_steps(Program("", steps, 0), size)
            self.assertEqual(polys[1], Poly.constant("number", Ratio(size)))
            self.assertEqual(polys[3], Poly.constant("number", Ratio(-size, 2)))
            self.assertEqual(polys[4], Poly.constant("number", Ratio(size * size)))

    def test_example_of_point_44(self):
        program = Program("x", [("letter", "x"), ("one",), ("sum", 0, 1), ("power", 2, 2), ("trace", 3)], 4)
        for size in SIZES:
            found = expand(program, size)
            self.assertEqual(found.kind, "number")
            self.assertEqual(found.terms, (((), ""), (("x",), ""), (("xx",), "")))
            self.assertEqual([str(found[key]) for key in found], [str(size), "2", "1"])

    def test_values_are_those_of_runs(self):
        program = Program("xy", STEPS, 0)
        for size in SIZES:
            for seed in (1, 2, 3):
                matrices = some_matrices("xy", size, seed)
                for value, result in zip(expand_steps(program, size), run_steps(program, size, matrices)):
                    self.assertEqual(poly_value(value, size, matrices), plain(result))

    def test_wrong_size(self):
        for size in NO_SIZES:
            for program in (Program("xy", STEPS, 0), Program("", [("one",)], 0), Program("", [("const", Ratio(1))], 0)):
                for action in (expand, expand_steps):
                    with self.assertRaises(WrongSize):
                        action(program, size)

    def test_the_list_is_new(self):
        program = Program("xy", STEPS, 0)
        expand_steps(program, 2).clear()
        self.assertEqual(len(expand_steps(program, 2)), len(STEPS))
        self.assertEqual(program.steps, tuple(STEPS))


if __name__ == "__main__":
    unittest.main()
