import unittest

from helpers import NO_SIZES, SIZES, matrix_of, some_matrices, table

from tablelaws.bench import Bench
from tablelaws.certificates import accepts
from tablelaws.errors import (InvalidLine, InvalidName, KindMismatch, MissingMatrix, MissingProgram, ProgramError,
                              ProgramExists, ProgramTooLarge, UnknownName, WrongKind, WrongSize)
from tablelaws.expanding import expand
from tablelaws.matrices import Matrix
from tablelaws.normalforms import normal_form
from tablelaws.programs import Program
from tablelaws.ratios import Ratio
from tablelaws.reading import read_program
from tablelaws.running import run_program
from tablelaws.verdicts import Verdict


def text(letters, give, *lines):
    head = " ".join(["letters"] + list(letters))
    return "\n".join([head] + [f"let {line}" for line in lines] + [f"give {give}"])


PRODUCT = ("p = times x y", "q = times y x")
XY = text("xy", "p", *PRODUCT)
YX = text("xy", "q", *PRODUCT)
BRACKET = text("xy", "r", *PRODUCT, "r = diff p q")
ZERO = text("", "z", "o = one", "z = scale 0 o")
ONE = text("", "o", "o = one")
TRACE_XY = text("xy", "T", *PRODUCT, "T = trace p")
TRACE_YX = text("yx", "T", *PRODUCT, "T = trace q")
TRACES = text("xy", "T", "A = trace x", "B = trace y", "T = times A B")
TRACE_X = text("x", "T", "T = trace x")
TRACE_Z = text("z", "T", "T = trace z")
# The trace of the identity matrix multiplied by itself, and 4 times that trace minus 3: alike at the sizes 1 and 3.
SQUARE = text("", "S", "o = one", "T = trace o", "S = times T T")
LINE = text("", "L", "o = one", "T = trace o", "F = scale 4 T", "C = const 3", "L = diff F C")
NINE = text("", "C", "C = const 9")
FOUR = text("", "C", "C = const 4")
# Alike at the sizes 1 and 2.
HALL = text("xy", "s", *PRODUCT, "r = diff p q", "s = power r 2")
HALF = text("xy", "h", *PRODUCT, "r = diff p q", "s = power r 2", "T = trace s", "U = scale 1/2 T", "o = one",
            "h = times U o")
BAD = "letters x\nlet y = sum x z\ngive y"
TEXTS = {"xy": XY, "yx": YX, "bracket": BRACKET, "zero": ZERO, "one": ONE, "txy": TRACE_XY,
         "tyx": TRACE_YX, "tt": TRACES}
NOT_NAMES = ("", "A", "Ab", "aB", "a1", "a b", " a", "a_b", "abcdefghi", "a\n", "-", "ab.")


def bench_of(size, texts):
    bench = Bench(size)
    for name, program in texts.items():
        bench.load(name, program)
    return bench


def shown(program):
    """What tells one program of the tests from the other ones."""
    return (program.letters, [str(step[0]) + str(step[1:]) if step[0] not in ("scale", "const") else
                              (step[0], str(step[1])) + step[2:] for step in program.steps], program.result)


def state(bench):
    return (bench.size, [(name, shown(bench[name])) for name in bench])


def expected_classes(texts, size):
    """The classes of the programs, from whether the results are equal at many matrices."""
    found = []
    for name in texts:
        for group in found:
            if are_alike(read_program(texts[name]), read_program(texts[group[0]]), size):
                group.append(name)
                break
        else:
            found.append([name])
    return tuple(tuple(group) for group in found)


def are_alike(first, second, size):
    points = [some_matrices(sorted(set(first.letters + second.letters)), size, seed) for seed in range(1, 5)]
    return first.kind == second.kind and all(
        run_program(first, size, point) == run_program(second, size, point) for point in points)


class ProgramsTest(unittest.TestCase):
    def test_an_empty_bench(self):
        for size in SIZES:
            bench = Bench(size)
            self.assertEqual((bench.size, len(bench), list(bench), bench.all_letters()), (size, 0, [], ""))
            self.assertFalse("x" in bench)
            self.assertEqual((bench.results({}), bench.classes(), bench.separator()), ([], (), {}))

    def test_load(self):
        bench = Bench(2)
        self.assertIsNone(bench.load("xy", XY))
        self.assertIsNone(bench.load("a", ONE))
        bench.load("abcdefgh", TRACE_X)
        self.assertEqual(list(bench), ["xy", "a", "abcdefgh"])
        self.assertEqual(len(bench), 3)
        self.assertTrue("a" in bench and "xy" in bench)
        self.assertFalse("b" in bench or "" in bench or "x" in bench)
        self.assertIsInstance(bench["xy"], Program)
        self.assertEqual(shown(bench["xy"]), shown(read_program(XY)))
        self.assertEqual(shown(bench["a"]), shown(read_program(ONE)))

    def test_reload_keeps_the_position(self):
        bench = bench_of(2, TEXTS)
        self.assertIsNone(bench.reload("yx", TRACE_X))
        self.assertEqual(list(bench), list(TEXTS))
        self.assertEqual(shown(bench["yx"]), shown(read_program(TRACE_X)))
        self.assertEqual(shown(bench["xy"]), shown(read_program(XY)))
        self.assertEqual(len(bench), len(TEXTS))

    def test_drop_and_load_again(self):
        bench = bench_of(2, TEXTS)
        self.assertIsNone(bench.drop("yx"))
        self.assertEqual(list(bench), [name for name in TEXTS if name != "yx"])
        self.assertFalse("yx" in bench)
        self.assertEqual(len(bench), len(TEXTS) - 1)
        bench.load("yx", XY)
        self.assertEqual(list(bench), [name for name in TEXTS if name != "yx"] + ["yx"])
        for name in list(bench):
            bench.drop(name)
        self.assertEqual((len(bench), list(bench)), (0, []))

    def test_all_letters(self):
        bench = Bench(1)
        bench.load("a", TRACE_Z)
        bench.load("b", TRACE_YX)
        self.assertEqual(bench.all_letters(), "xyz")
        bench.drop("a")
        self.assertEqual(bench.all_letters(), "xy")
        # Letters that no step needs count, too.
        bench.load("c", text("qab", "T", "T = trace q"))
        self.assertEqual(bench.all_letters(), "abqxy")

    def test_resize(self):
        bench = bench_of(1, {"s": SQUARE})
        for size in (3, 2, 1):
            self.assertIsNone(bench.resize(size))
            self.assertEqual(bench.size, size)
            self.assertEqual([(value.num, value.den) for value in bench.results({})], [(size * size, 1)])

    def test_two_benches(self):
        first, second = Bench(1), Bench(2)
        first.load("a", XY)
        self.assertEqual((len(second), list(second)), (0, []))


class ErrorTest(unittest.TestCase):
    def assert_unchanged(self, bench, error, call, *arguments):
        before = state(bench)
        with self.assertRaises(error) as caught:
            call(*arguments)
        self.assertIs(type(caught.exception), error)
        self.assertEqual(state(bench), before)
        return caught.exception

    def test_wrong_size(self):
        for size in NO_SIZES:
            with self.assertRaises(WrongSize):
                Bench(size)
            bench = bench_of(2, TEXTS)
            self.assert_unchanged(bench, WrongSize, bench.resize, size)
            self.assertEqual(bench.size, 2)

    def test_load(self):
        bench = bench_of(2, TEXTS)
        for name in NOT_NAMES:
            for program in (XY, BAD, ""):
                self.assert_unchanged(bench, InvalidName, bench.load, name, program)
        for name in TEXTS:
            for program in (XY, BAD, ""):
                self.assert_unchanged(bench, ProgramExists, bench.load, name, program)
        self.assertEqual(self.assert_unchanged(bench, UnknownName, bench.load, "new", BAD).line, 2)
        self.assertEqual(self.assert_unchanged(bench, InvalidLine, bench.load, "new", "").line, 1)
        self.assert_unchanged(bench, KindMismatch, bench.load, "new", "letters x\nlet T = one\ngive T")
        self.assertFalse("new" in bench)
        with self.assertRaises(ProgramError):
            bench.load("new", "letters\n" * 240)
        large = "letters x\nlet y = power x 6\ngive y"
        self.assert_unchanged(bench, ProgramTooLarge, bench.load, "new", large)
        bench.load("new", XY)
        self.assertTrue("new" in bench)

    def test_reload(self):
        bench = bench_of(2, TEXTS)
        for name in ("new", "") + NOT_NAMES:
            for program in (XY, BAD):
                self.assert_unchanged(bench, MissingProgram, bench.reload, name, program)
        self.assert_unchanged(bench, UnknownName, bench.reload, "xy", BAD)
        self.assert_unchanged(bench, InvalidLine, bench.reload, "xy", "")

    def test_missing_programs(self):
        bench = bench_of(2, TEXTS)
        for name in ("new", "", "XY", "x"):
            self.assert_unchanged(bench, MissingProgram, bench.drop, name)
            self.assert_unchanged(bench, MissingProgram, bench.normal, name)
            self.assert_unchanged(bench, MissingProgram, bench.compare, name, "xy")
            self.assert_unchanged(bench, MissingProgram, bench.compare, "xy", name)
            self.assert_unchanged(bench, MissingProgram, bench.compare, "tt", name)
            self.assert_unchanged(bench, MissingProgram, bench.compare, name, name)
            self.assert_unchanged(bench, MissingProgram, lambda missing: bench[missing], name)
        bench.drop("xy")
        for call in (bench.drop, bench.normal, lambda missing: bench[missing]):
            self.assert_unchanged(bench, MissingProgram, call, "xy")

    def test_wrong_kind(self):
        bench = bench_of(2, TEXTS)
        self.assert_unchanged(bench, WrongKind, bench.compare, "xy", "tt")
        self.assert_unchanged(bench, WrongKind, bench.compare, "txy", "zero")

    def test_results(self):
        bench = bench_of(2, {"a": TRACE_X, "b": TRACE_Z, "c": ONE})
        one = {"x": Matrix.one(2)}
        self.assert_unchanged(bench, MissingMatrix, bench.results, {})
        self.assert_unchanged(bench, MissingMatrix, bench.results, one)
        self.assert_unchanged(bench, WrongSize, bench.results, {"x": Matrix.one(3)})
        self.assert_unchanged(bench, WrongSize, bench.results, {"x": Matrix.one(2), "z": Matrix.one(1)})
        # The first program that has an error decides.
        self.assert_unchanged(bench, MissingMatrix, bench.results, {"z": Matrix.one(3)})
        bench.drop("a")
        self.assert_unchanged(bench, WrongSize, bench.results, {"z": Matrix.one(3)})
        bench.resize(3)
        self.assertEqual(bench.results({"z": Matrix.one(3)}), [Ratio(3), Matrix.one(3)])


class ResultsTest(unittest.TestCase):
    def test_results(self):
        matrices = {"x": matrix_of("1 2; 3 4"), "y": matrix_of("0 1; 0 0"), "k": Matrix.one(3)}
        bench = bench_of(2, TEXTS)
        found = bench.results(matrices)
        self.assertIsInstance(found, list)
        self.assertEqual(found, [run_program(read_program(program), 2, matrices) for program in TEXTS.values()])
        self.assertEqual(found[2], matrix_of("-3 -3; 0 3"))
        self.assertEqual((found[5], found[7]), (Ratio(3), Ratio(0)))

    def test_normal(self):
        for size in SIZES:
            bench = bench_of(size, TEXTS)
            for name, program in TEXTS.items():
                self.assertEqual(bench.normal(name), normal_form(size, expand(read_program(program), size)))
        bench = bench_of(1, {"s": SQUARE})
        self.assertEqual(str(bench.normal("s")[((), "")]), "1")
        bench.resize(3)
        self.assertEqual(str(bench.normal("s")[((), "")]), "9")

    def test_compare(self):
        for size in SIZES:
            bench = bench_of(1, TEXTS)
            bench.resize(size)
            for first in TEXTS:
                for second in TEXTS:
                    programs = [read_program(TEXTS[first]), read_program(TEXTS[second])]
                    if programs[0].kind == programs[1].kind:
                        found = bench.compare(first, second)
                        self.assertIsInstance(found, Verdict)
                        self.assertEqual(found.alike, are_alike(*programs, size))
                        if found:
                            polys = [expand(program, size) for program in programs]
                            self.assertTrue(accepts(found.certificate, polys[0] - polys[1]))
                        else:
                            values = [run_program(program, size, found.matrices) for program in programs]
                            self.assertNotEqual(*values)


class ClassesTest(unittest.TestCase):
    def test_by_hand(self):
        bench = bench_of(1, TEXTS)
        self.assertEqual(bench.classes(), (("xy", "yx"), ("bracket", "zero"), ("one",), ("txy", "tyx", "tt")))
        bench.resize(2)
        self.assertEqual(bench.classes(),
                         (("xy",), ("yx",), ("bracket",), ("zero",), ("one",), ("txy", "tyx"), ("tt",)))
        bench.drop("xy")
        bench.load("xy", YX)
        self.assertEqual(bench.classes(), (("yx", "xy"), ("bracket",), ("zero",), ("one",), ("txy", "tyx"), ("tt",)))
        bench = bench_of(2, {"a": HALL, "b": SQUARE, "c": HALF, "d": LINE, "e": NINE, "f": FOUR})
        self.assertEqual(bench.classes(), (("a", "c"), ("b", "f"), ("d",), ("e",)))
        bench.resize(3)
        self.assertEqual(bench.classes(), (("a",), ("b", "d", "e"), ("c",), ("f",)))
        bench.resize(1)
        self.assertEqual(bench.classes(), (("a", "c"), ("b", "d"), ("e",), ("f",)))

    def test_all(self):
        texts = {**TEXTS, "hall": HALL, "half": HALF, "s": SQUARE, "l": LINE, "n": NINE, "tz": TRACE_Z}
        bench = bench_of(1, texts)
        for size in (1, 2, 3, 1):
            bench.resize(size)
            self.assertEqual(bench.classes(), expected_classes(texts, size))
            self.assertIsInstance(bench.classes(), tuple)
            self.assertTrue(all(isinstance(group, tuple) for group in bench.classes()))

    def test_equal_results_of_unlike_kinds(self):
        """At size 1 the identity matrix and the number 1 stay apart."""
        bench = bench_of(1, {"a": ONE, "b": text("", "C", "C = const 1"), "c": text("", "z", "z = one")})
        self.assertEqual(bench.classes(), (("a", "c"), ("b",)))
        zero = bench_of(1, {"a": ZERO, "b": text("", "C", "C = const 0")})
        self.assertEqual(zero.classes(), (("a",), ("b",)))


class SeparatorTest(unittest.TestCase):
    def assert_separates(self, bench):
        point = bench.separator()
        self.assertIsInstance(point, dict)
        self.assertEqual("".join(sorted(point)), bench.all_letters())
        for matrix in point.values():
            self.assertEqual(matrix.size, bench.size)
            self.assertTrue(all(entry.denominator == 1 for entry in sum(table(matrix), [])))
        results = dict(zip(bench, bench.results(point)))
        for first in bench:
            for second in bench:
                if bench[first].kind == bench[second].kind:
                    alike = bench.compare(first, second).alike
                    self.assertEqual(results[first] == results[second], alike, (first, second))

    def test_all_sizes(self):
        for size in SIZES:
            self.assert_separates(bench_of(size, TEXTS))
            self.assert_separates(bench_of(size, {"a": HALL, "b": HALF, "c": ZERO, "d": XY, "e": TRACE_Z, "f": LINE}))
            self.assert_separates(bench_of(size, {"s": SQUARE, "l": LINE, "n": NINE, "f": FOUR, "z": ZERO, "o": ONE}))

    def test_programs_with_many_equal_results(self):
        """Each program is the trace of x multiplied by some of the traces of x minus 0, 1, 2 and so on."""
        texts = {}
        for count in range(7):
            lines, last = ["T = trace x", "P = const 1"], "T" if count else "P"
            for k in range(1, count):
                letter = "abcdef"[k]
                lines.extend([f"C{letter} = const {k}", f"D{letter} = diff T C{letter}",
                              f"P{letter} = times {last} D{letter}"])
                last = f"P{letter}"
            texts["abcdefgh"[count]] = text("x", last, *lines)
        texts["z"] = ZERO.replace("give z", "let Z = trace z\ngive Z")
        for size in SIZES:
            self.assert_separates(bench_of(size, texts))

    def test_programs_of_unlike_letters(self):
        texts = {name: text(letter, "T", f"T = trace {letter}") for name, letter in zip("abcdef", "uvwxyz")}
        texts["g"] = text("uvwxyz", "s", "p = times u v", "q = times w x", "r = times y z", "s = times p q")
        texts["h"] = text("uvwxyz", "s", "p = times u v", "q = times w x", "r = times y z", "s = times q p")
        for size in SIZES:
            self.assert_separates(bench_of(size, texts))

    def test_without_programs_and_without_letters(self):
        for size in SIZES:
            self.assertEqual(Bench(size).separator(), {})
            self.assertEqual(bench_of(size, {"s": SQUARE, "l": LINE}).separator(), {})
            bench = bench_of(size, {"x": TRACE_X})
            self.assertEqual(list(bench.separator()), ["x"])

    def test_after_a_resize(self):
        bench = bench_of(1, {"s": SQUARE, "l": LINE, "a": XY, "b": YX, "h": HALL, "k": HALF})
        for size in (1, 2, 3, 2, 1):
            bench.resize(size)
            self.assert_separates(bench)


class NewValuesTest(unittest.TestCase):
    def test_returned_lists_and_dicts_are_new(self):
        matrices = {"x": Matrix.one(2), "y": Matrix.one(2)}
        bench = bench_of(2, TEXTS)
        before = state(bench)
        bench.results(matrices).clear()
        bench.separator().clear()
        bench.compare("xy", "yx").matrices.clear()
        self.assertEqual(len(bench.results(matrices)), len(TEXTS))
        self.assertEqual(sorted(bench.separator()), ["x", "y"])
        self.assertEqual(sorted(bench.compare("xy", "yx").matrices), ["x", "y"])
        self.assertEqual(state(bench), before)
        self.assertEqual(matrices, {"x": Matrix.one(2), "y": Matrix.one(2)})


if __name__ == "__main__":
    unittest.main()
