import unittest
from itertools import permutations

from helpers import NO_SIZES, SIZES

from tablelaws.errors import TooLarge, WrongSize
from tablelaws.matrices import Matrix
from tablelaws.staircases import (doubled_arrows, doubled_entry, doubled_staircase, stair_arrows, staircase,
                                  staircase_entry)

WHOLE = [(1, 1), (1, 2), (2, 2), (2, 3), (3, 3)]
WORDS = ("a", "ba", "xyz", "zxyw", "edcba", "fbdace")


def along(word, matrices, size):
    found = Matrix.one(size)
    for letter in word:
        found = found * matrices[letter]
    return found


def orders(word):
    return ["".join(letters) for letters in permutations(word)]


class ArrowsTest(unittest.TestCase):
    def test_example(self):
        self.assertEqual(stair_arrows(2, 3), [(1, 1), (1, 2), (2, 2)])

    def test_all_lengths(self):
        for size in SIZES:
            for length in range(2 * size):
                found = stair_arrows(size, length)
                self.assertIsInstance(found, list)
                self.assertEqual(found, WHOLE[:length])
            for length in range(2 * size, 2 * size + 4):
                with self.assertRaises(TooLarge):
                    stair_arrows(size, length)

    def test_wrong_size_first(self):
        for size in NO_SIZES:
            for length in (0, 1, 5, 99):
                with self.assertRaises(WrongSize):
                    stair_arrows(size, length)
                with self.assertRaises(WrongSize):
                    staircase_entry(size, length)

    def test_results_are_new(self):
        stair_arrows(2, 3).clear()
        doubled_arrows(2, 1).clear()
        staircase(2, "xyz").clear()
        doubled_staircase(1, "xy", 1).clear()
        self.assertEqual((len(stair_arrows(2, 3)), len(doubled_arrows(2, 1))), (3, 4))
        self.assertEqual((len(staircase(2, "xyz")), len(doubled_staircase(1, "xy", 1))), (3, 2))


class DoubledTest(unittest.TestCase):
    def test_examples(self):
        self.assertEqual(doubled_arrows(2, 1), [(1, 1), (1, 1), (1, 2), (2, 2)])
        self.assertEqual(doubled_arrows(2, 2), [(1, 2), (2, 2), (2, 2), (2, 1)])

    def test_odd_and_even_places(self):
        self.assertEqual(doubled_arrows(1, 1), [(1, 1), (1, 1)])
        self.assertEqual(doubled_arrows(2, 3), [(1, 1), (1, 2), (2, 2), (2, 2)])
        self.assertEqual(doubled_arrows(3, 1), [(1, 1), (1, 1), (1, 2), (2, 2), (2, 3), (3, 3)])
        self.assertEqual(doubled_arrows(3, 2), [(1, 2), (2, 2), (2, 2), (2, 3), (3, 3), (3, 1)])
        self.assertEqual(doubled_arrows(3, 3), [(1, 1), (1, 2), (2, 2), (2, 2), (2, 3), (3, 3)])
        self.assertEqual(doubled_arrows(3, 4), [(1, 2), (2, 2), (2, 3), (3, 3), (3, 3), (3, 1)])
        self.assertEqual(doubled_arrows(3, 5), [(1, 1), (1, 2), (2, 2), (2, 3), (3, 3), (3, 3)])

    def test_entries(self):
        self.assertEqual([doubled_entry(3, place) for place in range(1, 6)], [(1, 3), (1, 1), (1, 3), (1, 1), (1, 3)])
        self.assertEqual([doubled_entry(2, place) for place in range(1, 4)], [(1, 2), (1, 1), (1, 2)])
        self.assertEqual(doubled_entry(1, 1), (1, 1))

    def test_errors(self):
        for function in (doubled_arrows, doubled_entry):
            for size in NO_SIZES:
                for place in (0, 1, 2):
                    with self.assertRaises(WrongSize):
                        function(size, place)
            for size in SIZES:
                for place in (-1, 0, 2 * size, 2 * size + 1, 99):
                    with self.assertRaises(WrongSize):
                        function(size, place)


class StaircaseTest(unittest.TestCase):
    def test_matrices(self):
        self.assertEqual(staircase(2, "yx"), {"y": Matrix.unit(2, 1, 1), "x": Matrix.unit(2, 1, 2)})
        self.assertEqual(staircase(3, "cab"), {"c": Matrix.unit(3, 1, 1), "a": Matrix.unit(3, 1, 2),
                                               "b": Matrix.unit(3, 2, 2)})
        for size in SIZES:
            self.assertEqual(staircase(size, ""), {})
            for word in WORDS[:2 * size - 1]:
                expected = {letter: Matrix.unit(size, *arrow) for letter, arrow in zip(word, WHOLE)}
                self.assertEqual(staircase(size, word), expected)

    def test_entry(self):
        for size in SIZES:
            self.assertEqual([staircase_entry(size, length) for length in range(2 * size)],
                             [(1, 1), (1, 1), (1, 2), (1, 2), (1, 3), (1, 3)][:2 * size])

    def test_too_long(self):
        for size in SIZES:
            for length in range(2 * size, 2 * size + 3):
                with self.assertRaises(TooLarge):
                    staircase(size, "abcdefghi"[:length])
                with self.assertRaises(TooLarge):
                    staircase_entry(size, length)

    def test_wrong_size_first(self):
        for size in NO_SIZES:
            for word in ("", "x", "abcdefgh"):
                with self.assertRaises(WrongSize):
                    staircase(size, word)

    def test_one_word_is_singled_out(self):
        for size in SIZES:
            for word in WORDS[:2 * size - 1]:
                matrices = staircase(size, word)
                for other in orders(word):
                    expected = Matrix.zero(size)
                    if other == word:
                        expected = Matrix.unit(size, *staircase_entry(size, len(word)))
                    self.assertEqual(along(other, matrices, size), expected)


class DoubledStaircaseTest(unittest.TestCase):
    def test_matrices(self):
        for size in SIZES:
            word = WORDS[2 * size - 1]
            for place in range(1, 2 * size):
                arrows = doubled_arrows(size, place)
                expected = {letter: Matrix.unit(size, *arrow) for letter, arrow in zip(word, arrows)}
                self.assertEqual(doubled_staircase(size, word, place), expected)

    def test_two_words_are_singled_out(self):
        for size in SIZES:
            word = WORDS[2 * size - 1]
            for place in range(1, 2 * size):
                matrices = doubled_staircase(size, word, place)
                exchanged = word[:place - 1] + word[place - 1:place + 1][::-1] + word[place + 1:]
                for other in orders(word):
                    entry = along(other, matrices, size)[doubled_entry(size, place)]
                    self.assertEqual((entry.num, entry.den), (int(other in (word, exchanged)), 1))

    def test_errors(self):
        for size in NO_SIZES:
            for word, place in (("xy", 1), ("", 0), ("x", 9)):
                with self.assertRaises(WrongSize):
                    doubled_staircase(size, word, place)
        for size in SIZES:
            word = WORDS[2 * size - 1]
            for other in (word[:-1], word + "u", ""):
                for place in (1, 0):
                    with self.assertRaises(WrongSize):
                        doubled_staircase(size, other, place)
            for place in (-1, 0, 2 * size, 2 * size + 1):
                with self.assertRaises(WrongSize):
                    doubled_staircase(size, word, place)


if __name__ == "__main__":
    unittest.main()
