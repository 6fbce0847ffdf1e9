import unittest

from helpers import ratio

from tablelaws.errors import InvalidLine
from tablelaws.lines import parse_line, write_line
from tablelaws.ratios import Ratio

SIX = ("a", "B", "c", "Dd", "e", "abcdefgh")
VALID = {
    "letters": ("letters", ()),
    "letters x": ("letters", ("x",)),
    "letters b a b": ("letters", ("b", "a", "b")),
    "letters a b c d e f": ("letters", ("a", "b", "c", "d", "e", "f")),
    "def f": ("def", "f", ()),
    "def f a": ("def", "f", ("a",)),
    "def def A let A": ("def", "def", ("A", "let", "A")),
    "def f a B c Dd e abcdefgh": ("def", "f", SIX),
    "end a": ("end", "a"),
    "end Abc": ("end", "Abc"),
    "end end": ("end", "end"),
    "give T": ("give", "T"),
    "give give": ("give", "give"),
    "let c = one": ("let", "c", ("one",)),
    "let One = one": ("let", "One", ("one",)),
    "let let = one": ("let", "let", ("one",)),
    "let C = const 0": ("let", "C", ("const", Ratio(0))),
    "let c = const -7/12": ("let", "c", ("const", Ratio(-7, 12))),
    "let c = const 999999/999998": ("let", "c", ("const", Ratio(999999, 999998))),
    "let c = const -999998/999999": ("let", "c", ("const", Ratio(-999998, 999999))),
    "let c = sum a B": ("let", "c", ("sum", "a", "B")),
    "let c = sum sum sum": ("let", "c", ("sum", "sum", "sum")),
    "let c = diff a b": ("let", "c", ("diff", "a", "b")),
    "let c = diff b a": ("let", "c", ("diff", "b", "a")),
    "let c = times B a": ("let", "c", ("times", "B", "a")),
    "let T = scale -1/2 a": ("let", "T", ("scale", Ratio(-1, 2), "a")),
    "let t = scale 100000 a": ("let", "t", ("scale", Ratio(100000), "a")),
    "let T = trace a": ("let", "T", ("trace", "a")),
    "let t = trace Ab": ("let", "t", ("trace", "Ab")),
    "let p = power a 0": ("let", "p", ("power", "a", 0)),
    "let p = power A 6": ("let", "p", ("power", "A", 6)),
    "let c = call f": ("let", "c", ("call", "f", ())),
    "let c = call f a": ("let", "c", ("call", "f", ("a",))),
    "let C = call call B a B": ("let", "C", ("call", "call", ("B", "a", "B"))),
    "let c = call f a B c Dd e abcdefgh": ("let", "c", ("call", "f", SIX)),
}
INVALID = (
    # What is no line at all.
    "", " ", "x", "Letters x", "LET c = one", "let", "end", "give", "def", "call f a", "one", "sum a b", "letter x",
    "# letters x", "letters,x",
    # Letters.
    "letters xy", "letters X", "letters 1", "letters x,y", "letters x xy", "letters a b c d e f g", "letters =",
    # Functions.
    "def F", "def F a", "def 1", "def f 1", "def f a 1", "def f a B c D e f g", "def abcdefghi", "def f abcdefghi",
    "def f Abcdefghi", "def f aB",
    # End and give.
    "end a b", "give a b", "end 1", "give 1", "end aB", "give Abcdefghi", "give abcdefghi", "end = one",
    # Let.
    "let c", "let c =", "let c one", "let c == one", "let = one", "let c := one", "let c is one", "let 1 = one",
    "let abcdefghi = one", "let cD = one", "let c = a", "let c = 1", "let c = One", "let c = two", "let c d = one",
    "let = = one", "let c = = one", "let c = letters x", "let c = give a", "let c = let d = one",
    # Words too many and too few.
    "let c = one a", "let c = one one", "let c = const", "let c = const 1 2", "let c = const 1 a", "let c = sum",
    "let c = sum a", "let c = sum a b c", "let c = diff a", "let c = diff a b c", "let c = times a",
    "let c = times a b c", "let c = scale", "let c = scale 1", "let c = scale 1 a b", "let c = scale a 1",
    "let c = trace", "let c = trace a b", "let c = power", "let c = power a", "let c = power a 2 3",
    "let c = power 2 a", "let c = call", "let c = sum a 1", "let c = sum 1 a", "let c = scale 1 2", "let c = trace 1",
    "let c = power 1 2", "let c = const a",
    # Fractions.
    "let c = const 1000000", "let c = const -1000000", "let c = const 1/1000000", "let c = const 1000000/7",
    "let c = scale 1000000 a", "let c = scale -1/1000000 a", "let c = const 2/4", "let c = const +1",
    "let c = const -0", "let c = const 01", "let c = const 3/1", "let c = const 1/0", "let c = const 1/-2",
    "let c = const 1/", "let c = const 1.5", "let c = scale 2/4 a", "let c = scale 0/1 a", "let c = scale x a",
    "let c = const " + "9" * 70, "let c = const 1 / 2",
    # Exponents.
    "let c = power a 7", "let c = power a 8", "let c = power a 9", "let c = power a -1", "let c = power a 10",
    "let c = power a 00", "let c = power a 02", "let c = power a 01", "let c = power a 1/2", "let c = power a x",
    "let c = power a +1", "let c = power a 12",
    # Calls.
    "let c = call F", "let c = call F a", "let c = call 1", "let c = call f 1", "let c = call f a 1",
    "let c = call f a B c D e f g", "let c = call abcdefghi", "let c = call f abcdefghi",
)


class LinesTest(unittest.TestCase):
    def assert_invalid(self, line, number=7):
        with self.assertRaises(InvalidLine, msg=repr(line)) as caught:
            parse_line(line, number)
        self.assertEqual(caught.exception.line, number)

    def test_statements(self):
        for line, statement in VALID.items():
            self.assertEqual(parse_line(line, 3), statement, line)

    def test_parts_of_statements(self):
        for line, statement in VALID.items():
            found = parse_line(line, 3)
            self.assertIsInstance(found, tuple)
            self.assertEqual([type(part) for part in found], [type(part) for part in statement])
            if found[0] == "let":
                self.assertEqual([type(part) for part in found[2]], [type(part) for part in statement[2]])

    def test_statements_are_written(self):
        for line, statement in VALID.items():
            self.assertEqual(write_line(statement), line)
            self.assertEqual(write_line(parse_line(line, 1)), line)

    def test_each_exponent_and_fraction(self):
        for k in range(7):
            self.assertEqual(parse_line(f"let c = power a {k}", 1), ("let", "c", ("power", "a", k)))
        for text in ("0", "1", "-1", "1/2", "-10/3", "123456", "-654321", "1/999999", "-999999/5"):
            self.assertEqual(parse_line(f"let c = const {text}", 1), ("let", "c", ("const", ratio(text))))
            self.assertEqual(parse_line(f"let c = scale {text} a", 1), ("let", "c", ("scale", ratio(text), "a")))

    def test_invalid_lines(self):
        for line in INVALID:
            self.assert_invalid(line)

    def test_number(self):
        for number in (0, 1, 2, 241, -3, 10 ** 9):
            self.assert_invalid("nothing", number)
            self.assert_invalid("let c = const 2/4", number)

    def test_spaces(self):
        for line in VALID:
            self.assert_invalid(" " + line)
            self.assert_invalid(line + " ")
            self.assert_invalid(line + "\n")
            self.assert_invalid("\n" + line)
            for k, sign in enumerate(line):
                if sign == " ":
                    self.assert_invalid(line[:k] + " " + line[k:])
                    self.assert_invalid(line[:k] + "\t" + line[k + 1:])
                    self.assert_invalid(line[:k] + "\n" + line[k + 1:])

    def test_a_word_too_many(self):
        for line, statement in VALID.items():
            full = "letters" in line or "call" in line or line.startswith("def")
            if not full:
                self.assert_invalid(line + " a")
                self.assert_invalid(line + " 1")

    def test_counts_of_names(self):
        for count in range(10):
            for begin, names in (("letters", "x"), ("def f", "ab"), ("let c = call f", "Ab")):
                line = begin + (" " + names) * count
                if count <= 6:
                    found = parse_line(line, 1)
                    listed = found[2][2] if begin.startswith("let c") else found[-1]
                    self.assertEqual(listed, (names,) * count)
                else:
                    self.assert_invalid(line)

    def test_different_lines_have_different_statements(self):
        statements = [parse_line(line, 1) for line in VALID]
        for j, first in enumerate(statements):
            for k, second in enumerate(statements):
                self.assertIs(first == second, j == k)


if __name__ == "__main__":
    unittest.main()
