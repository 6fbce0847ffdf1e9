"""Fractions of two integers in lowest terms."""

from math import gcd

from tablelaws.errors import InvalidNumber, ZeroDivisor

MOST_DIGITS = 60


class Ratio:
    """A fraction in lowest terms with a positive denominator; zero is 0/1."""

    def __init__(self, num, den=1):
        if den == 0:
            raise ZeroDivisor("the denominator is 0")
        divisor = gcd(num, den)
        if den < 0:
            divisor = -divisor
        self.num = num // divisor
        self.den = den // divisor

    @classmethod
    def read(cls, text):
        """Returns the fraction whose written form is the text."""
        top, slash, bottom = text.partition("/")
        if not slash:
            bottom = "1"
        if not (_are_digits(top.removeprefix("-")) and _are_digits(bottom)) or int(bottom) == 0:
            raise InvalidNumber(f"not a fraction: {text!r}")
        ratio = cls(int(top), int(bottom))
        # This one test leaves out -0, leading zeros, the denominator 1 and what is not in lowest terms.
        if str(ratio) != text:
            raise InvalidNumber(f"not the written form of a fraction: {text!r}")
        return ratio

    def __str__(self):
        if self.den == 1:
            return str(self.num)
        return f"{self.num}/{self.den}"

    def __eq__(self, other):
        return isinstance(other, Ratio) and self.num == other.num and self.den == other.den

    def __bool__(self):
        return bool(self.num)

    def __add__(self, other):
        return Ratio(self.num * other.den + other.num * self.den, self.den * other.den)

    def __sub__(self, other):
        return Ratio(self.num * other.den - other.num * self.den, self.den * other.den)

    def __mul__(self, other):
        return Ratio(self.num * other.num, self.den * other.den)

    def __floordiv__(self, other):
        """Returns the exact quotient; a zero divisor becomes the denominator 0, which `Ratio` rejects."""
        return Ratio(self.num * other.den, self.den * other.num)

    def __neg__(self):
        return Ratio(-self.num, self.den)

    def power(self, exponent):
        """Returns the product of `exponent` factors; 1 for the exponent 0."""
        result = Ratio(1)
        for _ in range(exponent):
            result = result * self
        return result


def _are_digits(text):
    """Tells whether a text consists of 1 to 60 decimal digits."""
    # The length comes first: Python refuses to convert very long texts to integers.
    return 1 <= len(text) <= MOST_DIGITS and all([sign in "0123456789" for sign in text])
