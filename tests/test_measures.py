import unittest

from helpers import ratio

from tablelaws import measures
from tablelaws.measures import measure_step

EARLIER = [(1, 1, 0), (3, 4, 10), (2, 3, 5), (0, 1, 7)]


class MeasuresTest(unittest.TestCase):
    def test_limits(self):
        self.assertEqual((measures.MOST_DEGREE, measures.MOST_WIDTH, measures.MOST_HEIGHT), (6, 32, 200))
        self.assertEqual((measures.MOST_LINES, measures.MOST_STEPS), (240, 480))

    def assert_measure(self, step, expected):
        found = measure_step(step, EARLIER)
        self.assertIsInstance(found, tuple)
        self.assertEqual(found, expected)

    def test_letter_and_one(self):
        self.assert_measure(("letter", "x"), (1, 1, 0))
        self.assert_measure(("one",), (0, 1, 0))
        self.assertEqual(measure_step(("letter", "x"), []), (1, 1, 0))

    def test_digits(self):
        for text, digits in (("0", 1), ("1", 1), ("-1", 1), ("9", 1), ("10", 2), ("-10", 2), ("-999", 3), ("1/2", 1),
                             ("1/10", 2), ("-1/10", 2), ("-123/10", 3), ("7/1234", 4), ("-99999/7", 5),
                             ("-1/123456", 6), ("123456/123457", 6)):
            self.assert_measure(("const", ratio(text)), (0, 1, digits))
            self.assert_measure(("scale", ratio(text), 1), (3, 4, 10 + digits))

    def test_sum_and_difference(self):
        for word in ("sum", "diff"):
            self.assert_measure((word, 1, 2), (3, 7, 16))
            self.assert_measure((word, 2, 1), (3, 7, 16))
            self.assert_measure((word, 0, 0), (1, 2, 1))
            self.assert_measure((word, 3, 0), (1, 2, 8))

    def test_product(self):
        self.assert_measure(("times", 1, 2), (5, 12, 15))
        self.assert_measure(("times", 2, 2), (4, 9, 10))
        self.assert_measure(("times", 3, 1), (3, 4, 17))

    def test_trace(self):
        self.assert_measure(("trace", 1), (3, 4, 11))
        self.assert_measure(("trace", 0), (1, 1, 1))

    def test_power(self):
        self.assert_measure(("power", 1, 0), (0, 1, 0))
        self.assert_measure(("power", 3, 0), (0, 1, 0))
        self.assert_measure(("power", 1, 1), (3, 4, 10))
        self.assert_measure(("power", 1, 2), (6, 16, 20))
        self.assert_measure(("power", 2, 6), (12, 729, 30))

    def test_the_list_stays(self):
        earlier = list(EARLIER)
        measure_step(("sum", 1, 2), earlier)
        self.assertEqual(earlier, EARLIER)


if __name__ == "__main__":
    unittest.main()
