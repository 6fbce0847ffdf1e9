import unittest

from tablelaws.errors import WrongKind
from tablelaws.programs import Program
from tablelaws.ratios import Ratio

# A matrix, the identity, a number and a trace, which the tests go on from.
START = [("letter", "x"), ("one",), ("const", Ratio(2, 3)), ("trace", 0)]
STARTS = ("matrix", "matrix", "number", "number")
MATRICES, NUMBERS = (0, 1), (2, 3)


class ProgramTest(unittest.TestCase):
    def kind_behind_start(self, step):
        program = Program("x", START + [step], 4)
        self.assertEqual(program.kinds[:4], STARTS)
        self.assertEqual(program.kind, program.kinds[4])
        return program.kinds[4]

    def test_attributes(self):
        steps = START + [("times", 0, 1), ("power", 3, 2)]
        program = Program("xy", steps, 4)
        self.assertEqual((program.letters, program.steps, program.result), ("xy", tuple(steps), 4))
        self.assertEqual(program.kinds, STARTS + ("matrix", "number"))
        self.assertEqual(program.kind, "matrix")
        self.assertIsInstance(program.kinds, tuple)
        self.assertEqual(Program("xy", steps, 5).kind, "number")

    def test_result_need_not_be_the_last_step(self):
        self.assertEqual([Program("x", START, k).kind for k in range(4)], list(STARTS))

    def test_steps_as_list_and_tuple(self):
        for steps in (START, tuple(START)):
            program = Program("x", steps, 0)
            self.assertIsInstance(program.steps, tuple)
            self.assertEqual(program.steps, tuple(START))

    def test_a_list_that_is_changed_afterwards(self):
        steps = list(START)
        program = Program("x", steps, 0)
        steps[0] = ("const", Ratio(1))
        steps.append(("one",))
        self.assertEqual((program.steps, program.kinds, program.kind), (tuple(START), STARTS, "matrix"))

    def test_sum_and_difference(self):
        for word in ("sum", "diff"):
            for i in MATRICES:
                for j in MATRICES:
                    self.assertEqual(self.kind_behind_start((word, i, j)), "matrix")
            for i in NUMBERS:
                for j in NUMBERS:
                    self.assertEqual(self.kind_behind_start((word, i, j)), "number")

    def test_sum_and_difference_of_different_kinds(self):
        for word in ("sum", "diff"):
            for i in MATRICES:
                for j in NUMBERS:
                    for step in ((word, i, j), (word, j, i)):
                        with self.assertRaises(WrongKind):
                            Program("x", START + [step], 0)

    def test_product(self):
        for i in range(4):
            for j in range(4):
                expected = "number" if i in NUMBERS and j in NUMBERS else "matrix"
                self.assertEqual(self.kind_behind_start(("times", i, j)), expected)

    def test_multiple_and_power(self):
        for i in range(4):
            self.assertEqual(self.kind_behind_start(("scale", Ratio(0), i)), STARTS[i])
            for k in range(7):
                self.assertEqual(self.kind_behind_start(("power", i, k)), STARTS[i])

    def test_trace(self):
        for i in MATRICES:
            self.assertEqual(self.kind_behind_start(("trace", i)), "number")
        for i in NUMBERS:
            with self.assertRaises(WrongKind):
                Program("x", START + [("trace", i)], 0)

    def test_equality_with_other_objects(self):
        program = Program("x", START, 0)
        for other in (None, "x", program.steps, Ratio(1)):
            self.assertIs(program == other, False)


if __name__ == "__main__":
    unittest.main()
