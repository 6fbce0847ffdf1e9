import unittest

from helpers import KINDS, poly

from tablelaws.parts import contents_in, part_of

MATRIX = poly("matrix", ("3", [], ""), ("1", [], "xy"), ("-2", [], "yx"), ("1/2", ["x"], "y"), ("5", ["xy"], ""),
              ("1", ["x", "xxy"], "y"), ("7", [], "xxxyy"), ("1", ["x"], "x"), ("-1", ["z"], "b"))
NUMBER = poly("number", ("1", ["xy"], ""), ("-1", ["x", "y"], ""), ("2", ["xxy"], ""), ("1/3", ["yxyx"], ""),
              ("4", ["ba"], ""))


class PartsTest(unittest.TestCase):
    def test_contents(self):
        self.assertEqual(contents_in(MATRIX), ["", "bz", "xx", "xxxyy", "xy"])
        self.assertEqual(contents_in(NUMBER), ["ab", "xxy", "xxyy", "xy"])
        self.assertIsInstance(contents_in(NUMBER), list)

    def test_constants(self):
        for kind in KINDS:
            constant = poly(kind, ("-2", [], ""))
            self.assertEqual(contents_in(constant), [""])
            self.assertEqual(part_of(constant, ""), constant)
            self.assertEqual(part_of(constant, "x"), poly(kind))

    def test_part(self):
        self.assertEqual(part_of(MATRIX, "xy"),
                         poly("matrix", ("1", [], "xy"), ("-2", [], "yx"), ("1/2", ["x"], "y"), ("5", ["xy"], "")))
        self.assertEqual(part_of(MATRIX, "xxxyy"), poly("matrix", ("1", ["x", "xxy"], "y"), ("7", [], "xxxyy")))
        self.assertEqual(part_of(MATRIX, "bz"), poly("matrix", ("-1", ["z"], "b")))
        self.assertEqual(part_of(MATRIX, ""), poly("matrix", ("3", [], "")))
        self.assertEqual(part_of(NUMBER, "xy"), poly("number", ("1", ["xy"], ""), ("-1", ["x", "y"], "")))
        self.assertEqual(part_of(NUMBER, "xxyy"), poly("number", ("1/3", ["xyxy"], "")))

    def test_contents_that_do_not_occur(self):
        for content in ("x", "xyy", "xxx", "xyz", "a", "xxxyyy"):
            self.assertEqual(part_of(MATRIX, content), poly("matrix"))
            self.assertEqual(part_of(NUMBER, content), poly("number"))
        self.assertEqual(part_of(NUMBER, ""), poly("number"))

    def test_no_terms(self):
        for kind in KINDS:
            self.assertEqual(contents_in(poly(kind)), [])
            for content in ("", "x", "xy"):
                self.assertEqual(part_of(poly(kind), content), poly(kind))

    def test_sum_of_the_parts(self):
        for whole in (MATRIX, NUMBER, poly("matrix", ("2", [], "")), poly("number")):
            total = poly(whole.kind)
            for content in contents_in(whole):
                part = part_of(whole, content)
                self.assertEqual(contents_in(part), [content])
                total = total + part
            self.assertEqual(total, whole)

    def test_the_list_is_new(self):
        contents_in(NUMBER).clear()
        self.assertEqual(len(contents_in(NUMBER)), 4)
        self.assertEqual(len(NUMBER), 5)


if __name__ == "__main__":
    unittest.main()
