import unittest

from helpers import KINDS, SIZES, plain, poly, poly_value, some_matrices

from tablelaws.errors import TooLarge
from tablelaws.expanding import expand
from tablelaws.polys import Poly
from tablelaws.ratios import Ratio
from tablelaws.reading import read_program
from tablelaws.running import run_program
from tablelaws.writing import write_program

# Twelve different terms of degree 6, and as many of degree 5 with words.
CYCLES = ["xxxxxx", "xxxxxy", "xxxxyy", "xxxyxy", "xxxyyy", "xxyyyy", "yyyyyy", "xyyyyy", "xyxyxy", "xxyxyy", "xxyxxy",
          "xyxyyy"]
WORDS = ["xxxxx", "xxxxy", "xxxyx", "xxyxx", "xyxxx", "yxxxx", "xxxyy", "xxyyx", "xyyxx", "yyxxx", "yyyyy", "xyxyx"]


class WritingTest(unittest.TestCase):
    def assert_written(self, value):
        text = write_program(value)
        self.assertEqual(text.split("\n")[0], " ".join(["letters", *value.used_letters()]))
        program = read_program(text)
        self.assertEqual(program.kind, value.kind)
        self.assertEqual(program.letters, value.used_letters())
        for size in SIZES:
            self.assertEqual(expand(program, size), value)
            self.assertEqual(expand(program, size).kind, value.kind)
            matrices = some_matrices(value.used_letters(), size, seed=size)
            self.assertEqual(plain(run_program(program, size, matrices)), poly_value(value, size, matrices))

    def assert_too_large(self, value):
        with self.assertRaises(TooLarge):
            write_program(value)

    def test_without_terms(self):
        for kind in KINDS:
            self.assert_written(poly(kind))

    def test_a_term_without_letters(self):
        for kind in KINDS:
            for text in ("1", "-1", "2/3", "-999999/999998"):
                self.assert_written(poly(kind, (text, [], "")))
            self.assert_written(poly(kind, ("-1/2", [], ""), ("3", ["x"], "")))

    def test_terms_of_both_kinds(self):
        self.assert_written(poly("number", ("1", ["x"], ""), ("-2", ["xy"], ""), ("1/3", ["y", "y", "zx"], "")))
        self.assert_written(poly("matrix", ("1", [], "x"), ("-2", ["xy"], ""), ("1/3", ["y", "zx"], "yx"),
                                 ("5", ["x", "x", "z"], "z"), ("1", [], "xyzyx"), ("-7", ["abc"], "ba")))

    def test_each_kind_of_term_alone(self):
        for word in ("", "x", "yx", "xyy"):
            self.assert_written(poly("matrix", ("-3/4", [], word)))
            self.assert_written(poly("matrix", ("1", ["xy"], word)))
            self.assert_written(poly("matrix", ("1", ["x", "y"], word)))

    def test_letters_that_are_words_of_names(self):
        self.assert_written(poly("matrix", ("1", ["a"], "bc"), ("2", ["n"], "abz"), ("1", ["m", "a"], "b")))
        self.assert_written(poly("number", ("1", ["b", "a"], ""), ("4", ["z"], "")))

    def test_six_letters(self):
        self.assert_written(poly("number", ("1", ["fbdcae"], ""), ("-1", ["abc", "def"], "")))
        self.assert_written(poly("number", ("1", list("fedcba"), "")))

    def test_twelve_terms_of_the_greatest_degree(self):
        self.assertEqual(len(poly("number", *[("1", [cycle], "") for cycle in CYCLES])), 12)
        self.assert_written(poly("number", *[("999999/999998", [cycle], "") for cycle in CYCLES]))
        self.assert_written(poly("matrix", *[("-123456/999999", [], word) for word in WORDS]))

    def test_twelve_terms_of_many_cyclic_words(self):
        letters = "abcdef"
        numbers = [list("aaaaa") + [letter] for letter in letters] + [list("bbbbb") + [letter] for letter in letters]
        self.assertEqual(len({tuple(sorted(cycles)) for cycles in numbers}), 12)
        self.assert_written(poly("number", *[("-123457/999999", cycles, "") for cycles in numbers]))
        matrices = [(list("aaaa"), letter) for letter in letters] + [(list("aaaa") + [x], "") for x in letters]
        self.assert_written(poly("matrix", *[("999998/999999", cycles, word) for cycles, word in matrices]))

    def test_number_of_terms(self):
        numbers = [("1", [cycle[:5]], "") for cycle in CYCLES] + [("1", ["x"], ""), ("1", ["y"], ""), ("1", [], ""),
                                                                  ("1", ["x", "y"], ""), ("1", ["xy"], "")]
        full = poly("number", *numbers)
        twelve = Poly("number", [(*key, full[key]) for key in full.terms[:12]])
        thirteen = Poly("number", [(*key, full[key]) for key in full.terms[:13]])
        self.assertEqual((len(twelve), len(thirteen)), (12, 13))
        self.assert_written(twelve)
        self.assert_too_large(thirteen)
        words = poly("matrix", *[("1", [], word) for word in WORDS])
        self.assert_written(words)
        self.assert_too_large(words + Poly.letter("y"))
        self.assert_written(words - poly("matrix", ("1", [], "xxxxx")) + Poly.letter("y"))

    def test_degree(self):
        self.assert_written(poly("number", ("1", ["xyxyxy"], "")))
        self.assert_written(poly("number", ("1", ["xyx", "yxy"], "")))
        self.assert_too_large(poly("number", ("1", ["xyxyxyx"], "")))
        self.assert_too_large(poly("number", ("1", list("xxxxxxx"), "")))
        self.assert_written(poly("matrix", ("1", [], "xyxyx")))
        self.assert_written(poly("matrix", ("1", ["xyx"], "yx")))
        self.assert_written(poly("matrix", ("1", list("xxxxx"), "")))
        self.assert_too_large(poly("matrix", ("1", [], "xyxyxy")))
        self.assert_too_large(poly("matrix", ("1", ["xyxyxy"], "")))
        self.assert_too_large(poly("matrix", ("1", ["xyx"], "yxy")))
        self.assert_too_large(poly("matrix", ("1", [], "x"), ("1", [], "xyxyxyx")))

    def test_digits_of_coefficients(self):
        for kind in KINDS:
            for text in ("999999", "-999999", "1/999999", "-1/999999", "999999/999998", "-100000/3"):
                self.assert_written(poly(kind, (text, ["x"], "")))
            for text in ("1000000", "-1000000", "1/1000000", "-1/1000000", "1000000/3", "3/1000000"):
                self.assert_too_large(poly(kind, (text, ["x"], "")))
                self.assert_too_large(poly(kind, ("1", [], ""), (text, ["x"], "")))
            self.assert_too_large(Poly.constant(kind, Ratio(10 ** 5000)))

    def test_the_polynomial_stays(self):
        value = poly("matrix", ("2", ["yx"], "xy"), ("-1", [], ""))
        write_program(value)
        self.assertEqual(value, poly("matrix", ("2", ["yx"], "xy"), ("-1", [], "")))


if __name__ == "__main__":
    unittest.main()
