import unittest
from random import Random

from helpers import KINDS, NO_SIZES, SIZES, poly

from tablelaws.errors import InvalidPolynomial, TooLarge, WrongSize
from tablelaws.evaluating import value_at
from tablelaws.matrices import Matrix
from tablelaws.normalforms import is_zero
from tablelaws.polys import Poly
from tablelaws.ratios import Ratio
from tablelaws.staircases import doubled_staircase, staircase
from tablelaws.standard import standard
from tablelaws.wordlaws import word_witness


def words(**terms):
    """The polynomial of words with terms such as xy="1/2"."""
    return poly("matrix", *[(text, [], word) for word, text in terms.items()])


def drawn_words(letters, count, seed):
    draw = Random(seed)
    terms = []
    for _ in range(count):
        terms.append(([], "".join(draw.sample(letters, len(letters))), Ratio(draw.choice((-2, -1, 1, 2, 3)))))
    return Poly("matrix", terms)


class FormTest(unittest.TestCase):
    def test_refused(self):
        for value in (poly("number"), poly("number", ("1", ["x"], "")), poly("number", ("1", [], "")),
                      poly("matrix", ("1", ["x"], "y")), poly("matrix", ("1", ["xy"], "")),
                      words(xy="1") + poly("matrix", ("1", ["x"], "y")), words(xx="1"), words(xyx="1"),
                      words(xyx="1", xxy="-1"), words(xy="1", xyz="1"), words(xy="1", x="1"), words(xy="1", xz="1"),
                      words(x="1") + poly("matrix", ("1", [], "")), words(x="1", y="-1"),
                      words(abcdefgh="1", abcdefga="1"), words(xxxxxxxxx="1")):
            for size in SIZES:
                with self.assertRaises(InvalidPolynomial):
                    word_witness(size, value)

    def test_too_large(self):
        for size, value in ((1, words(xyz="1")), (1, words(xyz="1", zyx="-1")), (2, words(abcde="1")),
                            (3, words(abcdefg="2")), (3, words(abcdefgh="2", hgfedcba="1")), (1, words(abcdefgh="1"))):
            with self.assertRaises(TooLarge):
                word_witness(size, value)

    def test_wrong_size_first(self):
        for size in NO_SIZES:
            for value in (poly("number"), words(xx="1"), words(abcdefgh="1"), words(xy="1"), poly("matrix")):
                with self.assertRaises(WrongSize):
                    word_witness(size, value)

    def test_without_terms(self):
        for size in SIZES:
            self.assertIsNone(word_witness(size, poly("matrix")))


class WitnessTest(unittest.TestCase):
    def assert_witness(self, size, value):
        found = word_witness(size, value)
        self.assertEqual("".join(sorted(found)), value.used_letters())
        self.assertNotEqual(value_at(value, size, found), Matrix.zero(size))

    def test_few_letters(self):
        for size, value, word in ((1, words(x="3"), "x"), (2, words(yx="1", xy="-1"), "xy"), (2, words(zyx="5"), "zyx"),
                                  (3, words(bac="1", cab="-1", cba="1"), "bac"), (3, words(edcba="1/2"), "edcba"),
                                  (2, words(xyz="1", zxy="1", yxz="-1"), "xyz")):
            self.assertEqual(word_witness(size, value), staircase(size, word))
            self.assert_witness(size, value)
        for size in SIZES:
            self.assertEqual(word_witness(size, poly("matrix", ("-2", [], ""))), {})

    def test_2_letters_for_each_size(self):
        self.assertEqual(word_witness(1, words(xy="1")), doubled_staircase(1, "xy", 1))
        self.assertEqual(word_witness(1, words(yx="1")), doubled_staircase(1, "yx", 1))
        self.assertIsNone(word_witness(1, words(xy="1", yx="-1")))
        self.assertIsNone(word_witness(1, words(xy="-2/3", yx="2/3")))
        self.assertEqual(word_witness(1, words(xy="1", yx="1")), doubled_staircase(1, "xy", 1))
        self.assertEqual(word_witness(2, words(xy="1", yx="-1")), staircase(2, "xy"))

    def test_the_first_word_and_place(self):
        law = standard("abcd")
        self.assertIsNone(word_witness(2, law))
        self.assertIsNone(word_witness(2, law.scaled(Ratio(-3, 2))))
        # All sums are zero, except those that have the changed word.
        changed = law + words(dcba="1")
        expected = None
        for word in [word for _, word in changed.terms]:
            for place in (1, 2, 3):
                exchanged = word[:place - 1] + word[place] + word[place - 1] + word[place + 1:]
                if expected is None and "dcba" in (word, exchanged):
                    expected = (word, place)
        self.assertEqual(expected, ("cdba", 1))
        self.assertEqual(word_witness(2, changed), doubled_staircase(2, "cdba", 1))
        # A word that does not occur has the coefficient zero.
        self.assertEqual(word_witness(2, words(abcd="1", bacd="-1")), doubled_staircase(2, "abcd", 2))
        self.assertEqual(word_witness(2, words(abcd="1", bacd="-1", acbd="-1")), doubled_staircase(2, "abcd", 3))
        self.assertEqual(word_witness(2, words(abcd="1", bacd="-1", acbd="-1", abdc="-1")),
                         doubled_staircase(2, "abdc", 1))

    def test_none_exactly_for_zero(self):
        for size in SIZES:
            for count in range(1, 2 * size + 1):
                letters = "abcdef"[:count]
                for seed in range(6):
                    value = drawn_words(letters, 2 + seed, seed)
                    if count < 6:
                        self.assertEqual(word_witness(size, value) is None, is_zero(size, value))
                    if len(value) > 0 and word_witness(size, value) is not None:
                        self.assert_witness(size, value)
        for size, letters in ((1, "ab"), (2, "abcd")):
            for value in (standard(letters), standard(letters[::-1]).scaled(Ratio(1, 7))):
                self.assertIsNone(word_witness(size, value))
                for seed in range(5):
                    other = value + drawn_words(letters, 1, seed)
                    self.assertEqual(word_witness(size, other) is None, is_zero(size, other))
                    self.assert_witness(size, other)

    def test_6_letters(self):
        """The standard polynomial of 6 letters, from the products of those of 5 letters and one."""
        value = poly("matrix")
        for k, letter in enumerate("abcdef"):
            rest = "abcdef".replace(letter, "")
            value = value + (Poly.letter(letter) * standard(rest)).scaled(Ratio((-1) ** k))
        self.assertEqual(len(value), 720)
        self.assertIsNone(word_witness(3, value))
        with self.assertRaises(TooLarge):
            word_witness(2, value)
        changed = value + words(fedcba="1")
        self.assertEqual(word_witness(3, changed), doubled_staircase(3, "efdcba", 1))
        self.assert_witness(3, changed)
        changed = value - words(abcdef="1")
        self.assertEqual(word_witness(3, changed), doubled_staircase(3, "abcdfe", 5))
        self.assert_witness(3, changed)

    def test_kinds(self):
        for kind in KINDS:
            value = Poly(kind, [])
            if kind == "matrix":
                self.assertIsNone(word_witness(2, value))
            else:
                with self.assertRaises(InvalidPolynomial):
                    word_witness(2, value)


if __name__ == "__main__":
    unittest.main()
