import unittest
from fractions import Fraction

from helpers import fraction, grid

from tablelaws.errors import InvalidNumber, ZeroDivisor
from tablelaws.matrices import Matrix
from tablelaws.ratios import Ratio

PARTS = grid(range(-7, 8), [-6, -4, -3, -1, 1, 2, 5, 6])
BIG = 10 ** 59 + 9


class RatioTest(unittest.TestCase):
    def both(self):
        return [(Ratio(num, den), Fraction(num, den)) for num, den in PARTS]

    def test_lowest_terms_and_signs(self):
        for num, den in PARTS + [(BIG * 6, -BIG * 4), (-BIG, BIG), (0, -BIG)]:
            value = Ratio(num, den)
            expected = Fraction(num, den)
            self.assertEqual((value.num, value.den), (expected.numerator, expected.denominator))

    def test_denominator_is_one_if_it_is_left_out(self):
        self.assertEqual((Ratio(-4).num, Ratio(-4).den), (-4, 1))
        self.assertEqual((Ratio(0).num, Ratio(0).den), (0, 1))

    def test_denominator_by_name(self):
        self.assertEqual(str(Ratio(3, den=-6)), "-1/2")

    def test_denominator_zero(self):
        for num in (0, 1, -5):
            with self.assertRaises(ZeroDivisor):
                Ratio(num, 0)

    def test_operators(self):
        for a, first in self.both()[::3]:
            for b, second in self.both()[::5]:
                self.assertEqual(fraction(a + b), first + second)
                self.assertEqual(fraction(a - b), first - second)
                self.assertEqual(fraction(a * b), first * second)
                if second:
                    self.assertEqual(fraction(a // b), first / second)

    def test_results_are_in_lowest_terms(self):
        for value in (Ratio(1, 6) + Ratio(1, 3), Ratio(2, 3) - Ratio(1, 6), Ratio(2, 3) * Ratio(3, 4),
                      Ratio(-1, 3) // Ratio(-2, 3)):
            self.assertEqual((value.num, value.den), (1, 2))
        self.assertEqual((Ratio(1, 2) // Ratio(-3)).den, 6)
        self.assertEqual(((Ratio(1, 2) - Ratio(1, 2)).num, (Ratio(1, 2) - Ratio(1, 2)).den), (0, 1))

    def test_negative(self):
        for value, expected in self.both():
            self.assertEqual(fraction(-value), -expected)

    def test_quotient_by_zero(self):
        for num in (0, 3):
            with self.assertRaises(ZeroDivisor):
                Ratio(num) // Ratio(0)
        self.assertEqual(fraction(Ratio(0) // Ratio(3)), 0)

    def test_equality(self):
        for a, first in self.both():
            for b, second in self.both()[::7]:
                self.assertIs(a == b, first == second)
                self.assertIs(a != b, first != second)

    def test_equality_with_other_objects(self):
        for other in (1, "1", None, Fraction(1), Matrix([[1]]), (1, 1), True):
            self.assertIs(Ratio(1) == other, False)
            self.assertIs(other == Ratio(1), False)

    def test_truth(self):
        for value, expected in self.both():
            self.assertIs(bool(value), expected != 0)

    def test_power(self):
        for value, expected in self.both():
            for exponent in range(5):
                self.assertEqual(fraction(value.power(exponent)), expected ** exponent)
        self.assertEqual(fraction(Ratio(0).power(0)), 1)
        self.assertEqual(fraction(Ratio(-2, 3).power(12)), Fraction(4096, 531441))

    def test_arguments_stay(self):
        a, b = Ratio(1, 2), Ratio(-2, 3)
        for _ in (a + b, a - b, a * b, a // b, -a, a.power(3), a == b):
            self.assertEqual((a.num, a.den, b.num, b.den), (1, 2, -2, 3))


class WrittenFormTest(unittest.TestCase):
    def assert_invalid(self, text):
        with self.assertRaises(InvalidNumber, msg=repr(text)):
            Ratio.read(text)

    def test_written_form(self):
        for num, den, text in ((0, 5, "0"), (7, 1, "7"), (-7, 1, "-7"), (2, 4, "1/2"), (2, -4, "-1/2"),
                               (-12, 10, "-6/5"), (100, 10, "10")):
            self.assertEqual(str(Ratio(num, den)), text)

    def test_written_form_is_read_back(self):
        for num, den in PARTS + [(BIG, 3), (-3, BIG), (10, 1), (-120, 7)]:
            value = Ratio.read(str(Ratio(num, den)))
            self.assertIsInstance(value, Ratio)
            self.assertEqual(fraction(value), Fraction(num, den))

    def test_examples_of_invalid_texts(self):
        for text in ("", "+1", "-0", "01", "2/4", "3/1", "0/2", "1/0", "1/-2", "1/", " 1", "1 ", "1 /2", "1/ 2",
                     "- 1", "1 2"):
            self.assert_invalid(text)

    def test_other_invalid_texts(self):
        for text in ("-", "--1", "/", "/2", "-/2", "1/2/3", "1//2", "-01", "00", "0/1", "-0/1", "1/02", "1/+2", "-2/4",
                     "-3/1", "0/0", "-1/0", "1/00", "1.5", "1e3", "1_0", "0x1", "x", "1x", "1\n", "\n", "\n1", "1/2\n",
                     "1\n/2", "\u0661", "\u00b2", "1/\u0662", "1-", "-1-", "None"):
            self.assert_invalid(text)

    def test_sixty_digits(self):
        ones, end = "1" * 60, "1" * 59 + "2"
        for text in (ones, "-" + ones, "1/" + ones, "-1/" + ones, f"{ones}/{end}", f"-{ones}/{end}"):
            self.assertEqual(str(Ratio.read(text)), text)

    def test_sixty_one_digits(self):
        ones = "1" * 61
        for text in (ones, "-" + ones, "1/" + ones, "-1/" + ones, ones + "/2", f"-{ones}/2", f"{ones}/{ones[1:]}2"):
            self.assert_invalid(text)

    def test_very_many_digits(self):
        # Python itself refuses to convert more than 4300 digits.
        for text in ("7" * 5000, "-" + "7" * 5000, "1/" + "7" * 5000, "0" * 5000):
            self.assert_invalid(text)

    def test_long_fractions_are_written(self):
        self.assertEqual(str(Ratio(10 ** 3999 + 1)), "1" + "0" * 3998 + "1")
        self.assertEqual(len(str(Ratio(-1, 10 ** 3999))), 4003)

    def test_read_is_a_class_method(self):
        self.assertEqual(fraction(Ratio(5).read("-3/2")), Fraction(-3, 2))


if __name__ == "__main__":
    unittest.main()
