import unittest
from math import lcm

from helpers import SIZES, fraction, ratio

from tablelaws import measures
from tablelaws.expanding import expand_steps
from tablelaws.measures import measure_step
from tablelaws.programs import Program

EARLIER = [(1, 1, 0), (3, 4, 10), (2, 3, 5), (0, 1, 7)]


class MeasuresTest(unittest.TestCase):
    def test_limits(self):
        self.assertEqual((measures.MOST_DEGREE, measures.MOST_WIDTH, measures.MOST_HEIGHT), (6, 32, 200))
        self.assertEqual((measures.MOST_LINES, measures.MOST_STEPS), (240, 480))

    def assert_measure(self, step, expected):
        found = measure_step(step, EARLIER)
        self.assertIsInstance(found, tuple)
        self.assertEqual(found, expected)

    def test_letter_and_one(self):
        self.assert_measure(("letter", "x"), (1, 1, 0))
        self.assert_measure(("one",), (0, 1, 0))
        self.assertEqual(measure_step(("letter", "x"), []), (1, 1, 0))

    def test_digits(self):
        for text, digits in (("0", 1), ("1", 1), ("-1", 1), ("9", 1), ("10", 2), ("-10", 2), ("-999", 3), ("1/2", 1),
                             ("1/10", 2), ("-1/10", 2), ("-123/10", 3), ("7/1234", 4), ("-99999/7", 5),
                             ("-1/123456", 6), ("123456/123457", 6)):
            self.assert_measure(("const", ratio(text)), (0, 1, digits))
            self.assert_measure(("scale", ratio(text), 1), (3, 4, 10 + digits))

    def test_sum_and_difference(self):
        for word in ("sum", "diff"):
            self.assert_measure((word, 1, 2), (3, 7, 16))
            self.assert_measure((word, 2, 1), (3, 7, 16))
            self.assert_measure((word, 0, 0), (1, 2, 1))
            self.assert_measure((word, 3, 0), (1, 2, 8))

    def test_product(self):
        self.assert_measure(("times", 1, 2), (5, 12, 15))
        self.assert_measure(("times", 2, 2), (4, 9, 10))
        self.assert_measure(("times", 3, 1), (3, 4, 17))

    def test_trace(self):
        self.assert_measure(("trace", 1), (3, 4, 11))
        self.assert_measure(("trace", 0), (1, 1, 1))

    def test_power(self):
        self.assert_measure(("power", 1, 0), (0, 1, 0))
        self.assert_measure(("power", 3, 0), (0, 1, 0))
        self.assert_measure(("power", 1, 1), (3, 4, 10))
        self.assert_measure(("power", 1, 2), (6, 16, 20))
        self.assert_measure(("power", 2, 6), (12, 729, 30))

    def test_the_list_stays(self):
        earlier = list(EARLIER)
        measure_step(("sum", 1, 2), earlier)
        self.assertEqual(earlier, EARLIER)


def bounded_program(seed):
    """A program of many kinds of steps whose polynomials stay small; different seeds give different ones."""
    ratios = [ratio(text) for text in ("-999999", "1/999999", "999999/999998", "-7/3", "0", "10", "1/2", "1")]
    steps = [("letter", "x"), ("letter", "y"), ("one",), ("const", ratios[seed % len(ratios)])]
    measures_so_far, kinds = [], []
    state = seed
    while len(steps) < 40:
        program = Program("xy", steps, 0)
        measures_so_far = []
        for step in program.steps:
            measures_so_far.append(measure_step(step, measures_so_far))
        kinds = program.kinds
        state = (state * 1103515245 + 12345) % 2147483648
        pick = state // 65536
        i, j, factor = pick % len(steps), pick // 7 % len(steps), ratios[pick // 3 % len(ratios)]
        step = [("sum", i, j), ("diff", i, j), ("times", i, j), ("scale", factor, i), ("trace", i),
                ("power", i, pick // 5 % 4), ("const", factor), ("one",)][pick // 11 % 8]
        if step[0] in ("sum", "diff") and kinds[i] != kinds[j] or step[0] == "trace" and kinds[i] == "number":
            continue
        degree, width, height = measure_step(step, measures_so_far)
        if degree <= 6 and width <= 32 and height <= 200:
            steps.append(step)
    return Program("xy", steps, 0)


class BoundTest(unittest.TestCase):
    """Point 26."""

    def assert_bounds(self, program):
        found = []
        for step in program.steps:
            found.append(measure_step(step, found))
        for size in SIZES:
            for (degree, width, height), value in zip(found, expand_steps(program, size)):
                coefficients = [fraction(value[key]) for key in value]
                common = lcm(*[coefficient.denominator for coefficient in coefficients])
                self.assertLessEqual(value.degree, degree)
                self.assertLessEqual(len(value), width)
                self.assertLessEqual(common, 10 ** height)
                self.assertLessEqual(sum(abs(coefficient * common) for coefficient in coefficients), 10 ** height)

    def test_each_kind_of_step(self):
        for text in ("0", "1", "-9", "10", "1/9", "-999999", "1/999999", "999999/999998"):
            number = ratio(text)
            steps = [("letter", "x"), ("letter", "y"), ("one",), ("const", number), ("sum", 0, 1), ("diff", 1, 0),
                     ("sum", 2, 0), ("diff", 2, 2), ("sum", 3, 3), ("times", 4, 4), ("times", 3, 4), ("times", 4, 3),
                     ("times", 3, 3), ("scale", number, 4), ("scale", number, 3), ("trace", 2), ("trace", 9),
                     ("trace", 13), ("power", 4, 0), ("power", 4, 1), ("power", 4, 5), ("power", 3, 6), ("power", 3, 0),
                     ("sum", 16, 15), ("times", 16, 4), ("power", 23, 3), ("scale", number, 24)]
            self.assert_bounds(Program("xy", steps, 0))

    def test_denominators_without_a_common_divisor(self):
        steps = [("letter", "x")] + [("scale", ratio(f"{k}/{k + 1}"), 0) for k in range(90, 99)]
        for k in range(2, 10):
            steps.append(("sum", k, len(steps) - 1))
        self.assert_bounds(Program("x", steps, 0))

    def test_many_programs(self):
        for seed in range(20):
            self.assert_bounds(bounded_program(seed))

    def test_bounds_that_are_reached(self):
        """Sums have as many terms as their width says, and products, powers and traces, too."""
        steps = [("letter", "x"), ("letter", "y"), ("sum", 0, 1), ("power", 2, 5), ("times", 2, 2),
                 ("const", ratio("9"))]
        polys = expand_steps(Program("xy", steps, 0), 3)
        found = []
        for step in steps:
            found.append(measure_step(step, found))
        self.assertEqual([(value.degree, len(value)) for value in polys],
                         [(degree, width) for degree, width, height in found])


if __name__ == "__main__":
    unittest.main()
