import unittest

from helpers import SIZES, matrix_of

from tablelaws.bench import Bench
from tablelaws.matrices import Matrix
from tablelaws.reports import matrix_lines, point_lines, report

HEADER = "name     kind   steps degree terms class"
BRACKET = "letters x y\nlet p = times x y\nlet q = times y x\nlet r = diff p q\ngive r"
TRACE = "letters x\nlet T = trace x\nlet U = power T 3\ngive U"
NUMBER = "letters\nlet C = const -1/2\ngive C"
ZERO = "letters\nlet o = one\nlet z = scale 0 o\ngive z"


class ReportTest(unittest.TestCase):
    def test_no_program(self):
        for size in SIZES:
            self.assertEqual(report(Bench(size)), [HEADER])

    def test_both_kinds(self):
        bench = Bench(2)
        for name, text in (("b", BRACKET), ("abcdefgh", TRACE), ("num", NUMBER), ("nil", ZERO)):
            bench.load(name, text)
        self.assertEqual(report(bench), [
            HEADER,
            "b        matrix     5      2     2     1",
            "abcdefgh number     3      3     1     2",
            "num      number     1      0     1     3",
            "nil      matrix     2      0     0     4",
        ])
        bench.resize(1)
        self.assertEqual(report(bench), [
            HEADER,
            "b        matrix     5      0     0     1",
            "abcdefgh number     3      3     1     2",
            "num      number     1      0     1     3",
            "nil      matrix     2      0     0     1",
        ])
        bench.drop("b")
        bench.load("b", BRACKET)
        self.assertEqual(report(bench)[3:], ["nil      matrix     2      0     0     3",
                                             "b        matrix     5      0     0     3"])

    def test_the_normal_form_counts(self):
        bench = Bench(2)
        # Its normal form at size 2 has 5 terms instead of one.
        bench.load("a", "letters x y\nlet T = trace y\nlet p = times T x\ngive p")
        self.assertEqual(report(bench)[1], "a        matrix     4      2     5     1")
        bench.resize(3)
        self.assertEqual(report(bench)[1], "a        matrix     4      2     1     1")

    def test_many_steps(self):
        lines = ["letters x"] + [f"let {'abcdefghij'[k // 10]}{'abcdefghij'[k % 10]} = one" for k in range(99)]
        bench = Bench(1)
        bench.load("long", "\n".join(lines + ["give aa"]))
        self.assertEqual(report(bench)[1], "long     matrix   100      0     1     1")

    def test_wide_numbers(self):
        """A number that is wider than its column is written in full."""
        class Wide:
            kind, degree = "matrix", 12345678

            def __len__(self):
                return 7654321

        class WideBench:
            def __iter__(self):
                return iter(["w"])

            def __getitem__(self, name):
                program = Wide()
                program.steps = range(1000000)
                return program

            def normal(self, name):
                return Wide()

            def classes(self):
                return (("w",),)

        self.assertEqual(report(WideBench()), [HEADER, "w        matrix 1000000 12345678 7654321     1"])

    def test_results_are_new(self):
        bench = Bench(1)
        report(bench).clear()
        self.assertEqual(report(bench), [HEADER])


class LinesTest(unittest.TestCase):
    def test_by_hand(self):
        self.assertEqual(matrix_lines(matrix_of("1 2; 3 4")), ["1 2", "3 4"])
        self.assertEqual(matrix_lines(matrix_of("7")), ["7"])
        self.assertEqual(matrix_lines(matrix_of("-1/2")), ["-1/2"])

    def test_entries_of_unlike_widths(self):
        self.assertEqual(matrix_lines(matrix_of("1 -20 3; 100 2 -1/3; 0 5 12345")),
                         ["  1 -20     3", "100   2  -1/3", "  0   5 12345"])
        self.assertEqual(matrix_lines(matrix_of("-1/2 0; 3 -7/10")), ["-1/2     0", "   3 -7/10"])
        self.assertEqual(matrix_lines(matrix_of("-1 1; 1 -1")), ["-1  1", " 1 -1"])

    def test_points(self):
        matrices = {"y": matrix_of("1 10; -1/2 0"), "a": matrix_of("5"), "x": Matrix.zero(2)}
        self.assertEqual(point_lines(matrices), ["a:", "5", "x:", "0 0", "0 0", "y:", "   1 10", "-1/2  0"])
        self.assertEqual(list(matrices), ["y", "a", "x"])
        self.assertEqual(point_lines({}), [])

    def test_results_are_new(self):
        matrix = matrix_of("1 2; 3 4")
        matrix_lines(matrix).clear()
        point_lines({"x": matrix}).clear()
        self.assertEqual((matrix_lines(matrix), point_lines({"x": matrix})), (["1 2", "3 4"], ["x:", "1 2", "3 4"]))


if __name__ == "__main__":
    unittest.main()
