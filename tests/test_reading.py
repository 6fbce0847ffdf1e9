import unittest

from tablelaws.errors import InvalidLine, KindMismatch, NameTaken, ProgramTooLarge, UnknownName
from tablelaws.programs import Program
from tablelaws.ratios import Ratio
from tablelaws.reading import read_program

X = ("letter", "x")
Y = ("letter", "y")


def text_of(*lines):
    return "\n".join(lines)


class StepsTest(unittest.TestCase):
    def assert_program(self, text, letters, steps, result, kind):
        program = read_program(text)
        self.assertIsInstance(program, Program)
        self.assertEqual((program.letters, program.steps), (letters, tuple(steps)))
        self.assertEqual((program.result, program.kind), (result, kind))

    def test_example_of_the_interface(self):
        text = ("letters x y\ndef f a b\nlet p = times a b\nlet q = times b a\nlet r = diff p q\nend r\n"
                "let c = call f x y\nlet T = trace c\ngive T")
        self.assertEqual(read_program(text).steps, (X, Y, ("times", 0, 1), ("times", 1, 0), ("diff", 2, 3),
                                                    ("trace", 4)))
        self.assertEqual((read_program(text).result, read_program(text).kind), (5, "number"))

    def test_each_operation(self):
        self.assert_program(
            text_of("letters y x", "let a = one", "let B = const -1/2", "let c = sum x y", "let d = diff x y",
                    "let e = times B x", "let ff = scale 2/3 e", "let G = trace ff", "let h = power c 0",
                    "let I = times G B", "let J = power G 6", "let K = scale -4 G", "let L = sum G B",
                    "let m = times c B", "let N = diff B G", "give d"),
            "yx",
            [Y, X, ("one",), ("const", Ratio(-1, 2)), ("sum", 1, 0), ("diff", 1, 0), ("times", 3, 1),
             ("scale", Ratio(2, 3), 6), ("trace", 7), ("power", 4, 0), ("times", 8, 3), ("power", 8, 6),
             ("scale", Ratio(-4), 8), ("sum", 8, 3), ("times", 4, 3), ("diff", 3, 8)],
            5, "matrix")

    def test_letters_alone(self):
        self.assert_program("letters x\ngive x", "x", [X], 0, "matrix")
        self.assert_program("letters b a\ngive a", "ba", [("letter", "b"), ("letter", "a")], 1, "matrix")
        self.assert_program("letters a b c d e f\ngive f", "abcdef", [("letter", x) for x in "abcdef"], 5, "matrix")

    def test_no_letters(self):
        self.assert_program("letters\nlet C = const 0\ngive C", "", [("const", Ratio(0))], 0, "number")

    def test_unused_lines_add_steps(self):
        self.assert_program("letters x\nlet a = one\nlet b = one\ngive x", "x", [X, ("one",), ("one",)], 0, "matrix")

    def test_blocks_add_no_steps_by_themselves(self):
        self.assert_program("letters x\ndef f\nlet a = one\nend a\ngive x", "x", [X], 0, "matrix")

    def test_call_of_a_function_without_let_lines(self):
        self.assert_program(
            "letters x y\ndef f a b\nend b\nlet c = call f y x\nlet d = times c y\nlet e = call f x c\ngive e",
            "xy", [X, Y, ("times", 0, 1)], 0, "matrix")

    def test_call_whose_value_is_an_argument(self):
        self.assert_program(
            "letters x y\ndef f a b\nlet c = times a b\nend a\nlet c = call f y x\nlet d = sum c c\ngive d",
            "xy", [X, Y, ("times", 1, 0), ("sum", 1, 1)], 3, "matrix")

    def test_call_whose_value_is_not_the_last_step(self):
        self.assert_program(
            "letters x\ndef f a\nlet b = times a a\nlet c = one\nlet d = sum c b\nend b\nlet a = one\n"
            "let c = call f a\nlet d = call f c\ngive c",
            "x", [X, ("one",), ("times", 1, 1), ("one",), ("sum", 3, 2), ("times", 2, 2), ("one",), ("sum", 6, 5)],
            2, "matrix")

    def test_calls_within_blocks(self):
        self.assert_program(
            text_of("letters x y",
                    "def square a", "let b = times a a", "end b",
                    "def twice b", "let a = sum b b", "end a",
                    "def f a N", "let p = call square a", "let q = times N p", "let r = call twice q", "end r",
                    "let C = const 2",
                    "let c = call f y C",
                    "let d = call f c C",
                    "give d"),
            "xy",
            [X, Y, ("const", Ratio(2)), ("times", 1, 1), ("times", 2, 3), ("sum", 4, 4), ("times", 5, 5),
             ("times", 2, 6), ("sum", 7, 7)],
            8, "matrix")

    def test_calls_of_functions_that_only_pass_on(self):
        self.assert_program(
            text_of("letters x y", "def f a b", "end b", "def g a b", "let c = call f b a", "let d = times c b",
                    "let e = call f d c", "end e", "let h = call g x y", "give h"),
            "xy", [X, Y, ("times", 0, 1)], 0, "matrix")

    def test_equal_names_in_the_main_part_and_in_blocks(self):
        self.assert_program(
            text_of("letters x a",
                    "let p = times x a",
                    "def p x p", "let a = times p x", "let q = sum a p", "end q",
                    "def a p", "let x = one", "let q = diff p x", "end q",
                    "let q = call p p x",
                    "let r = call a q",
                    "give r"),
            "xa",
            [X, ("letter", "a"), ("times", 0, 1), ("times", 0, 2), ("sum", 3, 0), ("one",), ("diff", 4, 5)],
            6, "matrix")

    def test_functions_of_numbers(self):
        self.assert_program(
            text_of("letters x", "def f M N", "let K = diff N M", "end K", "let T = trace x", "let C = const 2",
                    "let D = call f T C", "give D"),
            "x", [X, ("trace", 0), ("const", Ratio(2)), ("diff", 2, 1)], 3, "number")

    def test_words_of_the_language_as_names(self):
        self.assert_program(
            text_of("letters x", "def call let", "let one = times let let", "end one", "let give = call call x",
                    "let let = sum give give", "give let"),
            "x", [X, ("times", 0, 0), ("sum", 1, 1)], 2, "matrix")

    def test_scaled_and_powers_within_calls(self):
        self.assert_program(
            text_of("letters x y", "def f a", "let b = scale 1 a", "let c = power b 1", "let N = trace c",
                    "let C = const 1", "let o = one", "let M = diff N C", "end M", "let T = call f y", "give T"),
            "xy",
            [X, Y, ("scale", Ratio(1), 1), ("power", 2, 1), ("trace", 3), ("const", Ratio(1)), ("one",),
             ("diff", 4, 5)],
            7, "number")


class FaultTest(unittest.TestCase):
    def assert_fault(self, error, line, *lines):
        with self.assertRaises(error, msg=str(lines)) as caught:
            read_program(text_of(*lines))
        self.assertIs(type(caught.exception), error, lines)
        self.assertEqual(caught.exception.line, line, lines)


HEAD = ("letters x y", "let T = trace x", "def f a N", "let b = times N a", "end b")


class InvalidLineTest(FaultTest):
    def test_line_1(self):
        for line in ("", " ", "nothing", "give x", "let a = one", "def f", "end x", "letters xx"):
            self.assert_fault(InvalidLine, 1, line)
            self.assert_fault(InvalidLine, 1, line, "letters x", "give x")

    def test_empty_text(self):
        with self.assertRaises(InvalidLine) as caught:
            read_program("")
        self.assertEqual(caught.exception.line, 1)

    def test_invalid_lines(self):
        for line in ("", "let a", "let  a = one", "give x ", "let a = power x 7", "def F", "end 1", "letters X"):
            self.assert_fault(InvalidLine, 6, *HEAD, line, "give x")
            self.assert_fault(InvalidLine, 4, *HEAD[:3], line, "end a", "give x")
            self.assert_fault(InvalidLine, 7, *HEAD, "give x", line)

    def test_second_letters_line(self):
        self.assert_fault(InvalidLine, 2, "letters x", "letters y", "give x")
        self.assert_fault(InvalidLine, 3, "letters x", "def f a", "letters", "end a", "give x")

    def test_lines_within_a_block(self):
        self.assert_fault(InvalidLine, 4, *HEAD[:3], "def g", "end a", "give x")
        self.assert_fault(InvalidLine, 4, *HEAD[:3], "give a", "end a", "give x")
        self.assert_fault(InvalidLine, 4, *HEAD[:3], "def f a a", "end a", "give x")

    def test_end_outside_of_the_blocks(self):
        self.assert_fault(InvalidLine, 2, "letters x", "end x", "give x")
        self.assert_fault(InvalidLine, 6, *HEAD, "end x", "give x")
        self.assert_fault(InvalidLine, 6, *HEAD, "end unknown", "give x")

    def test_lines_behind_the_give_line(self):
        for line in ("", "give x", "let a = one", "def f", "end x", "letters", "nothing", "let a = sum q q"):
            self.assert_fault(InvalidLine, 3, "letters x", "give x", line)
            self.assert_fault(InvalidLine, 3, "letters x", "give x", line, "")

    def test_texts_that_end_too_early(self):
        for count in range(1, 6):
            self.assert_fault(InvalidLine, count + 1, *HEAD[:count])
        self.assert_fault(InvalidLine, 2, "letters")
        # A newline behind the last line begins one more line.
        self.assert_fault(InvalidLine, 3, "letters x", "give x", "")

    def test_blank_around_the_text(self):
        self.assert_fault(InvalidLine, 1, "", "letters x", "give x")
        self.assert_fault(InvalidLine, 2, "letters x", "", "give x")


class UnknownNameTest(FaultTest):
    def test_each_operation(self):
        for operation in ("sum q x", "sum x q", "diff q x", "diff x q", "times q x", "times x q", "scale 2 q",
                          "trace q", "power q 0", "power q 2", "call f q T", "call f x Q", "call q", "call g x T",
                          "sum x Q", "trace Q"):
            self.assert_fault(UnknownName, 6, *HEAD, "let p = " + operation, "give x")

    def test_end_and_give(self):
        for name in ("q", "Q", "b", "N", "f"):
            self.assert_fault(UnknownName, 6, *HEAD, "give " + name)
        for name in ("q", "Q", "x", "T", "f"):
            self.assert_fault(UnknownName, 5, *HEAD[:4], "end " + name, "give x")

    def test_a_name_is_not_in_reach_of_its_own_line(self):
        self.assert_fault(UnknownName, 2, "letters x", "let a = sum a x", "give a")
        self.assert_fault(UnknownName, 3, "letters x", "def f b", "let a = sum a b", "end a", "give x")

    def test_later_names_are_not_in_reach(self):
        self.assert_fault(UnknownName, 2, "letters x", "let a = times b x", "let b = one", "give a")
        self.assert_fault(UnknownName, 2, "letters x", "let a = call f x", "def f a", "end a", "give a")

    def test_names_of_the_main_part_within_a_block(self):
        self.assert_fault(UnknownName, 4, *HEAD[:3], "let c = sum a x", "end a", "give x")
        self.assert_fault(UnknownName, 4, *HEAD[:3], "let C = sum N T", "end a", "give x")

    def test_names_of_a_block_outside_of_it(self):
        self.assert_fault(UnknownName, 6, *HEAD, "let c = sum a x", "give x")
        self.assert_fault(UnknownName, 6, *HEAD, "let c = sum b x", "give x")
        self.assert_fault(UnknownName, 7, *HEAD, "def g c", "let d = sum a c", "end d", "give x")

    def test_functions_do_not_call_themselves_or_later_ones(self):
        self.assert_fault(UnknownName, 3, "letters x", "def f a", "let b = call f a", "end b", "give x")
        self.assert_fault(UnknownName, 3, "letters x", "def f a", "let b = call g a", "end b", "def g a", "end a",
                          "give x")

    def test_functions_and_values_have_names_of_their_own(self):
        self.assert_fault(UnknownName, 6, *HEAD, "let p = sum f x", "give x")
        self.assert_fault(UnknownName, 6, *HEAD, "let p = call x x T", "give x")


class KindMismatchTest(FaultTest):
    def assert_mismatch(self, name, operation):
        self.assert_fault(KindMismatch, 6, *HEAD, f"let {name} = {operation}", "give x")

    def test_sum_and_difference(self):
        for operation in ("sum x T", "sum T x", "diff x T", "diff T x"):
            for name in ("p", "P"):
                self.assert_mismatch(name, operation)

    def test_trace_of_a_number(self):
        for name in ("p", "P"):
            self.assert_mismatch(name, "trace T")

    def test_arguments(self):
        for operation in ("call f", "call f x", "call f T", "call f x x", "call f T T", "call f T x", "call f x T x",
                          "call f x T T"):
            for name in ("p", "P"):
                self.assert_mismatch(name, operation)

    def test_kind_of_the_new_name(self):
        for operation in ("one", "sum x x", "diff x y", "times x y", "times x T", "times T x", "scale 2 x",
                          "power x 2", "power x 0", "call f x T"):
            self.assert_mismatch("P", operation)
        for operation in ("const 1", "sum T T", "diff T T", "times T T", "scale 2 T", "trace x", "power T 2",
                          "power T 0"):
            self.assert_mismatch("p", operation)

    def test_kind_of_a_call_is_that_of_the_end_line(self):
        head = ("letters x", "def f a", "let T = trace a", "end T", "def g a", "let T = trace a", "end a")
        self.assert_fault(KindMismatch, 8, *head, "let p = call f x", "give x")
        self.assert_fault(KindMismatch, 8, *head, "let P = call g x", "give x")
        program = read_program(text_of(*head, "let P = call f x", "let p = call g x", "give P"))
        self.assertEqual(program.steps, (X, ("trace", 0), ("trace", 0)))

    def test_within_a_block(self):
        for line in ("let c = sum a N", "let c = trace N", "let C = one", "let c = const 1"):
            self.assert_fault(KindMismatch, 4, *HEAD[:3], line, "end a", "give x")
        self.assert_fault(KindMismatch, 7, *HEAD, "def g a", "let c = call f a", "end a", "give x")


class NameTakenTest(FaultTest):
    def test_letters(self):
        self.assert_fault(NameTaken, 1, "letters x x", "give x")
        self.assert_fault(NameTaken, 1, "letters a b c d e a")

    def test_parameters(self):
        self.assert_fault(NameTaken, 2, "letters x", "def f a a", "end a", "give x")
        self.assert_fault(NameTaken, 2, "letters x", "def f A b A", "end b", "give x")

    def test_functions(self):
        self.assert_fault(NameTaken, 6, *HEAD, "def f", "let c = one", "end c", "give x")
        self.assert_fault(NameTaken, 6, *HEAD, "def f c c", "end c", "give x")

    def test_let_lines(self):
        for name in ("x", "y"):
            self.assert_fault(NameTaken, 6, *HEAD, f"let {name} = one", "give x")
            self.assert_fault(NameTaken, 6, *HEAD, f"let {name} = sum {name} x", "give x")
        self.assert_fault(NameTaken, 6, *HEAD, "let T = const 1", "give x")
        self.assert_fault(NameTaken, 6, *HEAD, "let x = call f x T", "give x")

    def test_let_lines_within_a_block(self):
        self.assert_fault(NameTaken, 4, *HEAD[:3], "let a = one", "end a", "give x")
        self.assert_fault(NameTaken, 4, *HEAD[:3], "let N = trace a", "end a", "give x")
        self.assert_fault(NameTaken, 5, *HEAD[:4], "let b = one", "end a", "give x")


class OrderTest(FaultTest):
    """Lines with two faults, and texts with two faulty lines."""

    def test_invalid_line_comes_before_the_others(self):
        self.assert_fault(InvalidLine, 1, "letters xx xx")
        self.assert_fault(InvalidLine, 2, "letters x", "end q")
        self.assert_fault(InvalidLine, 3, "letters x", "def f a", "give q")
        self.assert_fault(InvalidLine, 2, "letters x", "letters y y")
        self.assert_fault(InvalidLine, 6, *HEAD, "let x = trace q q")

    def test_unknown_name_comes_before_the_next_ones(self):
        self.assert_fault(UnknownName, 6, *HEAD, "let p = sum T q")
        self.assert_fault(UnknownName, 6, *HEAD, "let P = sum q x")
        self.assert_fault(UnknownName, 6, *HEAD, "let p = trace Q")
        self.assert_fault(UnknownName, 6, *HEAD, "let p = call f q")
        self.assert_fault(UnknownName, 6, *HEAD, "let p = call f T Q")
        self.assert_fault(UnknownName, 6, *HEAD, "let x = sum q x")
        self.assert_fault(UnknownName, 6, *HEAD, "let x = call g")

    def test_kind_mismatch_comes_before_the_next_ones(self):
        self.assert_fault(KindMismatch, 6, *HEAD, "let x = sum T x")
        self.assert_fault(KindMismatch, 6, *HEAD, "let x = const 1")
        self.assert_fault(KindMismatch, 6, *HEAD, "let T = one")
        self.assert_fault(KindMismatch, 3, "letters x", "let p = power x 6", "let P = times p x")

    def test_name_taken_comes_before_the_limits(self):
        self.assert_fault(NameTaken, 3, "letters x", "let p = power x 6", "let x = times p x")
        self.assert_fault(NameTaken, 3, "letters x", "let p = power x 6", "let p = times p x")

    def test_the_first_line_counts(self):
        self.assert_fault(ProgramTooLarge, 3, "letters x", "let p = power x 6", "let q = times p x", "nothing")
        self.assert_fault(NameTaken, 2, "letters x", "let x = one", "let a = sum q x", "")
        self.assert_fault(UnknownName, 3, "letters x", "def f", "end q", "end x")


class LimitTest(FaultTest):
    def lets(self, count):
        """That many `let` lines with different names."""
        letters = "abcdefghijklmnopqrstuvwxyz"
        return [f"let {letters[k // 26]}{letters[k % 26]} = one" for k in range(count)]

    def test_lines(self):
        self.assertEqual(len(read_program(text_of("letters x", *self.lets(238), "give x")).steps), 239)
        self.assert_fault(ProgramTooLarge, 241, "letters x", *self.lets(239), "give x")

    def test_line_241(self):
        for line in ("", "nothing", "give x", "let aa = one", "let q = sum q q", "end x"):
            self.assert_fault(ProgramTooLarge, 241, "letters x", *self.lets(238), "give x", line)
            self.assert_fault(ProgramTooLarge, 241, "letters x", *self.lets(239), line)
            self.assert_fault(ProgramTooLarge, 241, "letters x", *self.lets(239), line, "give x", "")
            self.assert_fault(ProgramTooLarge, 241, "letters x", *self.lets(238), "def f", line)

    def test_faults_above_line_241(self):
        self.assert_fault(InvalidLine, 240, "letters x", *self.lets(238), "nothing", "give x")
        self.assert_fault(UnknownName, 2, "letters x", "let q = sum q q", *self.lets(239), "give x")
        self.assert_fault(InvalidLine, 4, "letters x", *self.lets(1), "give x", *self.lets(300))

    def test_240_lines_without_a_give_line(self):
        self.assert_fault(InvalidLine, 241, "letters x", *self.lets(239))
        self.assert_fault(InvalidLine, 240, "letters x", *self.lets(238))

    def function(self, name, *parts):
        """The lines of a function that calls functions with these names, or adds so many steps of its own."""
        lines = [f"def {name}"]
        for k, part in enumerate(parts):
            letter = "abcdefghijklmnop"[k]
            if isinstance(part, int):
                lines += [line.replace("let ", "let " + letter) for line in self.lets(part)]
            else:
                lines.append(f"let {letter} = call {part}")
        return lines + [f"end {letter}" if isinstance(parts[-1], str) else f"end {letter}aa"]

    def test_function_helper(self):
        self.assertEqual(self.function("f", "g", 2), ["def f", "let a = call g", "let baa = one", "let bab = one",
                                                      "end baa"])

    def test_steps_of_a_function(self):
        # A function of 40 steps, one of 240, and one of 480.
        head = ["letters x", *self.function("f", 40), *self.function("g", *["f"] * 6), *self.function("h", "g", "g")]
        self.assertEqual(len(read_program(text_of(*head, "give x")).steps), 1)
        program = read_program(text_of("letters", *head[1:], "let p = call h", "give p"))
        self.assertEqual((len(program.steps), program.result), (480, 440))
        more = head + self.function("i", "h", 1)
        self.assert_fault(ProgramTooLarge, len(more), *more, "give x")
        # The faults of the lines above the end line come first, and an unknown name in the end line does, too.
        self.assert_fault(UnknownName, len(more), *more[:-1], "end q", "give x")
        self.assert_fault(InvalidLine, len(more), *more[:-1], "nothing", "give x")

    def test_steps_of_a_function_do_not_count_its_parameters(self):
        head = ["letters x", *self.function("f", 40), *self.function("g", *["f"] * 6), "def h a b c",
                "let d = call g", "let e = call g", "end a"]
        self.assertEqual(len(read_program(text_of(*head, "give x")).steps), 1)

    def test_functions_that_grow(self):
        lines = ["letters x", "def a", "let z = one", "end z"]
        names = "abcdefghijkl"
        for k in range(1, 12):
            lines += [f"def {names[k]}", f"let y = call {names[k - 1]}", f"let z = call {names[k - 1]}", "end z"]
        # The functions have 1, 2, 4 .. steps; the tenth is the first with more than 480.
        self.assert_fault(ProgramTooLarge, 4 + 4 * 9, *lines, "give x")

    def test_steps_of_a_program(self):
        head = [*self.function("f", 40), *self.function("g", *["f"] * 11)]
        for letters, ones, fits in (("", 40, True), ("", 41, False), (" x y", 38, True), (" x y", 39, False)):
            lines = ["letters" + letters, *head, "let g = call g", *self.lets(ones)]
            if fits:
                self.assertEqual(len(read_program(text_of(*lines, "give g")).steps), 480)
            else:
                self.assert_fault(ProgramTooLarge, len(lines), *lines, "give g")

    def test_steps_of_a_program_by_a_call(self):
        head = ["letters", *self.function("f", 40), *self.function("g", *["f"] * 11), "let g = call g"]
        program = read_program(text_of(*head, "let h = call f", "give h"))
        self.assertEqual((len(program.steps), program.result), (480, 440))
        self.assert_fault(ProgramTooLarge, len(head) + 2, *head, "let a = one", "let h = call f", "give h")

    def test_degree(self):
        head = ("letters x", "let p = power x 6")
        program = read_program(text_of(*head, "let T = trace p", "give T"))
        self.assertEqual(program.steps, (X, ("power", 0, 6), ("trace", 1)))
        self.assert_fault(ProgramTooLarge, 3, *head, "let q = times x p", "give x")
        self.assert_fault(ProgramTooLarge, 4, *head, "let T = trace p", "let q = times T x", "give x")
        self.assert_fault(ProgramTooLarge, 3, "letters x", "let p = times x x", "let q = power p 4", "give x")

    def test_width(self):
        lines = ["letters x", "let a = sum x x", "let b = sum a a", "let c = diff b b", "let d = sum c c",
                 "let e = sum d d"]
        self.assertEqual(len(read_program(text_of(*lines, "give e")).steps), 6)
        self.assert_fault(ProgramTooLarge, 7, *lines, "let f = sum e x", "give e")
        self.assert_fault(ProgramTooLarge, 7, *lines, "let f = times e a", "give e")

    def test_height(self):
        names = [line.split()[1] for line in self.lets(34)]
        lines = ["letters", "let aa = one"]
        for before, name, text in zip(names, names[1:], ["123456", "-1/123456", "-654321/123457"] * 11):
            lines.append(f"let {name} = scale {text} {before}")
        # The height of this value is 33 * 6 = 198.
        last = names[-1]
        lines.append(f"let y = scale 10 {last}")
        self.assertEqual(len(read_program(text_of(*lines, "give y")).steps), 35)
        self.assert_fault(ProgramTooLarge, 36, *lines[:-1], f"let y = scale 100 {last}", "give y")
        self.assert_fault(ProgramTooLarge, 37, *lines, "let T = trace y", "give y")
        self.assert_fault(ProgramTooLarge, 37, *lines, "let z = sum y aa", "give y")
        self.assert_fault(ProgramTooLarge, 37, *lines, "let z = scale 0 y", "give y")

    def test_measures_are_not_checked_in_blocks(self):
        head = ("letters x", "def f a", "let b = power a 4", "let c = times b b", "end c")
        self.assertEqual(len(read_program(text_of(*head, "give x")).steps), 1)
        self.assert_fault(ProgramTooLarge, 6, *head, "let p = call f x", "give x")
        # With an argument of degree 0 the same call is in order.
        program = read_program(text_of(*head, "let o = one", "let p = call f o", "give p"))
        self.assertEqual(program.steps, (X, ("one",), ("power", 1, 4), ("times", 2, 2)))

    def test_a_step_that_is_too_large_within_a_call(self):
        # The value of the call is small, but a step on the way is not.
        self.assert_fault(ProgramTooLarge, 6, "letters x", "def f a", "let b = power a 6", "let c = times b a",
                          "end a", "let p = call f x", "give x")

    def test_reading_stops_at_the_first_step_that_is_too_large(self):
        # The widths of the later steps have far more digits than any memory.
        lines = ["letters x", "def f a", "let aa = sum a a"]
        for k in range(1, 200):
            name, before = (self.lets(200)[j].split()[1] for j in (k, k - 1))
            lines.append(f"let {name} = power {before} 6")
        self.assert_fault(ProgramTooLarge, len(lines) + 2, *lines, "end a", "let p = call f x", "give x")

    def test_degree_of_a_matrix_that_is_given(self):
        for degree in range(7):
            lines = ("letters x", f"let p = power x {degree}", "give p")
            if degree <= 5:
                self.assertEqual(read_program(text_of(*lines)).result, 1)
            else:
                self.assert_fault(ProgramTooLarge, 3, *lines)
        # Products of numbers and matrices count like the others.
        lines = ("letters x", "let T = trace x", "let p = power x 4", "let q = times T p")
        self.assertEqual(read_program(text_of(*lines, "give q")).result, 3)
        self.assert_fault(ProgramTooLarge, 6, *lines, "let r = times q T", "give r")
        self.assertEqual(read_program(text_of(*lines, "let r = times q T", "give q")).result, 3)

    def test_unknown_name_comes_before_the_limit_of_the_give_line(self):
        self.assert_fault(UnknownName, 3, "letters x", "let p = power x 6", "give q")


if __name__ == "__main__":
    unittest.main()
