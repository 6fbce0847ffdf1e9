import unittest

from tablelaws.names import name_kind


class NamesTest(unittest.TestCase):
    def test_matrix_names(self):
        for name in ("a", "z", "xy", "let", "one", "const", "letters", "call", "abcdefgh", "zzzzzzzz"):
            self.assertEqual(name_kind(name), "matrix", name)

    def test_number_names(self):
        for name in ("A", "Z", "Xy", "Let", "One", "Abcdefgh", "Zzzzzzzz"):
            self.assertEqual(name_kind(name), "number", name)

    def test_length(self):
        for letter, kind in (("a", "matrix"), ("A", "number")):
            for rest in range(12):
                expected = kind if rest <= 7 else None
                self.assertEqual(name_kind(letter + "a" * rest), expected)
        self.assertIsNone(name_kind(""))

    def test_each_letter(self):
        lower = "abcdefghijklmnopqrstuvwxyz"
        for letter in lower:
            self.assertEqual([name_kind(letter), name_kind(letter.upper())], ["matrix", "number"])
            self.assertEqual([name_kind("b" + letter), name_kind("B" + letter)], ["matrix", "number"])

    def test_capital_letters_behind_the_first(self):
        for name in ("xY", "XY", "XyZ", "aB", "abcdefgH", "AbcdefgH", "AA"):
            self.assertIsNone(name_kind(name), name)

    def test_other_characters(self):
        for sign in " 0123456789!\"#$%&'()*+,-./:;<=>?@[\\]^_`{|}~\n\u00e9\u00c4\u00df\u03b1":
            for name in (sign, "a" + sign, sign + "a", "A" + sign, "a" + sign + "b", "A" + sign + "b"):
                self.assertIsNone(name_kind(name), repr(name))


if __name__ == "__main__":
    unittest.main()
