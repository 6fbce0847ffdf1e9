import unittest

from helpers import grid

from tablelaws.words import content_of, least_rotation, term_key


def words(most, letters="xyz"):
    return ["".join(word) for length in range(most + 1) for word in grid(*[letters] * length)]


class WordsTest(unittest.TestCase):
    def test_examples(self):
        for word, expected in (("", ""), ("x", "x"), ("yxx", "xxy"), ("xyx", "xxy"), ("xxy", "xxy"), ("ba", "ab"),
                               ("zyx", "xzy"), ("yxyx", "xyxy"), ("xxyxyx", "xxxyxy")):
            self.assertEqual(least_rotation(word), expected)

    def test_least_rotation(self):
        for word in words(5):
            rotations = sorted(word[k:] + word[:k] for k in range(len(word) or 1))
            self.assertEqual(least_rotation(word), rotations[0])

    def test_rotations_are_the_same_cyclic_word(self):
        for word in words(5):
            for k in range(len(word)):
                self.assertEqual(least_rotation(word[k:] + word[:k]), least_rotation(word))
        self.assertNotEqual(least_rotation("xyz"), least_rotation("zyx"))

    def test_key(self):
        self.assertEqual(term_key(["x", "xy"], "yx"), (("x", "xy"), "yx"))
        self.assertEqual(term_key(("yx", "x"), "yx"), (("x", "xy"), "yx"))
        self.assertEqual(term_key([], ""), ((), ""))
        self.assertEqual(term_key((), "zyx"), ((), "zyx"))
        self.assertEqual(term_key(["ba", "b", "a", "ba"], ""), (("a", "ab", "ab", "b"), ""))

    def test_key_sorts_the_rotated_words(self):
        # In the given order "bx" comes first, after rotation "ax" does.
        self.assertEqual(term_key(["bx", "xa"], ""), (("ax", "bx"), ""))
        self.assertEqual(term_key(["ca", "bb"], "ca"), (("ac", "bb"), "ca"))

    def test_key_in_any_rotation_and_order(self):
        for first, second in grid(["xxy", "xyx", "yxx"], ["xz", "zx"]):
            for cycles in ([first, second], (second, first)):
                self.assertEqual(term_key(cycles, "zy"), (("xxy", "xz"), "zy"))

    def test_the_list_stays(self):
        cycles = ["yx", "a"]
        key = term_key(cycles, "")
        self.assertEqual(cycles, ["yx", "a"])
        cycles.append("b")
        self.assertEqual(key, (("a", "xy"), ""))

    def test_content(self):
        self.assertEqual(content_of((("x", "xy"), "yx")), "xxxyy")
        self.assertEqual(content_of(((), "")), "")
        self.assertEqual(content_of(((), "zxy")), "xyz")
        self.assertEqual(content_of((("az", "b"), "")), "abz")


if __name__ == "__main__":
    unittest.main()
