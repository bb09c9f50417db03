"""Point 16: cells set in a width, and the least width of cells."""

import copy
import random
import unittest

from quirehand.cells import filled_rows, least_width
from quirehand.faces import wide
from helper import face_by_chance

FACE = (2, 1, (("i", 1), ("m", 5)))


def plain_rows(face, words, width):
    """Each line is tried with one word more as long as it goes in."""
    lines, begin = [], 0
    while begin < len(words):
        end = begin + 1
        while end < len(words) and wide(face, " ".join(words[begin:end + 1])) <= width:
            end += 1
        lines.append((begin, end))
        begin = end
    return lines


def searched_width(face, cells, rows):
    width = max([wide(face, word) for words in cells for word in words], default=1)
    while any([len(plain_rows(face, words, width)) > rows for words in cells]):
        width += 1
    return width


def words_by_chance(chance, most):
    return ["".join([chance.choice("aim.") for _ in range(chance.randint(1, 6))]) for _ in range(chance.randint(0, most))]


class FilledRowsTest(unittest.TestCase):
    def test_no_words(self):
        self.assertEqual(filled_rows(FACE, [], 10), [])
        self.assertEqual(filled_rows(FACE, (), 1), [])

    def test_words_that_just_go_in(self):
        # 4 + 1 + 4
        self.assertEqual(filled_rows(FACE, ["ab", "cd"], 9), [(0, 2)])
        self.assertEqual(filled_rows(FACE, ["ab", "cd"], 8), [(0, 1), (1, 2)])
        self.assertEqual(filled_rows(FACE, ["ab", "cd", "e", "f"], 9), [(0, 2), (2, 4)])
        self.assertEqual(filled_rows(FACE, ["ab", "cd", "e", "f"], 12), [(0, 3), (3, 4)])
        self.assertEqual(filled_rows(FACE, ["ab", "cd", "e", "f"], 15), [(0, 4)])

    def test_a_word_wider_than_the_width_stands_alone(self):
        self.assertEqual(filled_rows(FACE, ["i", "mmm", "i", "i"], 9), [(0, 1), (1, 2), (2, 4)])
        self.assertEqual(filled_rows(FACE, ["mmm"], 1), [(0, 1)])
        self.assertEqual(filled_rows(FACE, ["mmm", "mmm"], 1), [(0, 1), (1, 2)])

    def test_widths_in_odd(self):
        self.assertEqual(filled_rows(FACE, ["i", "i", "m"], 9), [(0, 3)])
        self.assertEqual(filled_rows(FACE, ["i", "i", "m"], 8), [(0, 2), (2, 3)])

    def test_a_list_and_a_tuple(self):
        self.assertEqual(filled_rows(FACE, ("ab", "cd", "e"), 9), filled_rows(FACE, ["ab", "cd", "e"], 9))

    def test_by_chance(self):
        chance = random.Random(16)
        for _ in range(1000):
            face, words = face_by_chance(chance), words_by_chance(chance, 12)
            width = chance.randint(1, 120)
            told = filled_rows(face, words, width)
            self.assertEqual(told, plain_rows(face, words, width))
            self.assertEqual({pair.__class__ for pair in told} | {tuple}, {tuple})

    def test_what_is_handed_in_stays_as_it_was(self):
        words = ["ab", "cd", "mmm"]
        told = filled_rows(FACE, words, 9)
        told.clear()
        self.assertEqual(words, ["ab", "cd", "mmm"])
        self.assertEqual(filled_rows(FACE, words, 9), [(0, 2), (2, 3)])


class LeastWidthTest(unittest.TestCase):
    def test_no_words(self):
        for rows in [1, 2, 50]:
            self.assertEqual(least_width(FACE, [], rows), 1)
            self.assertEqual(least_width(FACE, [[]], rows), 1)
            self.assertEqual(least_width(FACE, [(), [], ()], rows), 1)
        self.assertEqual(least_width((20, 20, ()), [()], 1), 1)

    def test_one_word(self):
        self.assertEqual(least_width(FACE, [["abc"]], 1), 6)
        self.assertEqual(least_width(FACE, [["abc"], []], 7), 6)
        self.assertEqual(least_width((1, 1, ()), [["a"]], 1), 1)

    def test_fewer_lines_are_wider(self):
        cell = ["ab", "cd", "ef", "gh"]
        self.assertEqual([least_width(FACE, [cell], rows) for rows in [1, 2, 3, 4, 5, 99]], [19, 9, 9, 4, 4, 4])

    def test_the_widest_word_of_all_cells(self):
        self.assertEqual(least_width(FACE, [["i", "i"], ["mm"], []], 2), 10)

    def test_all_cells_count(self):
        self.assertEqual(least_width(FACE, [["ab"], ["a", "b", "c"], ["m"]], 1), 8)

    def test_lists_and_tuples(self):
        self.assertEqual(least_width(FACE, [("ab", "cd"), ["e"]], 1), 9)

    def test_against_a_search_width_by_width(self):
        chance = random.Random(161)
        for _ in range(400):
            face = face_by_chance(chance)
            cells = [words_by_chance(chance, 9) for _ in range(chance.randint(0, 4))]
            for rows in [1, 2, 3, chance.randint(1, 12)]:
                self.assertEqual(least_width(face, cells, rows), searched_width(face, cells, rows))

    def test_what_is_handed_in_stays_as_it_was(self):
        cells = [["ab", "cd"], ("e",), []]
        before = copy.deepcopy(cells)
        least_width(FACE, cells, 1)
        self.assertEqual(cells, before)


if __name__ == "__main__":
    unittest.main()
