"""Point 17: columns of tables, and their rows set in them."""

import copy
import random
import unittest

from quirehand.cells import least_width
from quirehand.columns import columns, set_row
from quirehand.errors import TooWide
from quirehand.faces import wide
from helper import face_by_chance, good_rules, refused

FACE = (2, 1, (("i", 1), ("m", 5)))


def searched_columns(face, width, table):
    for lines in range(1, 100):
        widths = [least_width(face, [row[at] for row in table], lines) for at in range(len(table[0]))]
        if sum(widths) + 2 * face[1] * (len(widths) - 1) <= width:
            return (lines, widths)
    return None


def table_by_chance(chance):
    cells = chance.randint(1, 4)
    return tuple([
        tuple([
            tuple(["".join([chance.choice("aim.") for _ in range(chance.randint(1, 5))]) for _ in range(chance.randint(0, 6))])
            for _ in range(cells)])
        for _ in range(chance.randint(1, 4))])


class ColumnsTest(unittest.TestCase):
    def test_one_column(self):
        table = ((("ab", "cd", "ef"),), (("gh",),))
        self.assertEqual(columns(FACE, good_rules(width=14), table), (1, [14]))
        self.assertEqual(columns(FACE, good_rules(width=13), table), (2, [9]))
        self.assertEqual(columns(FACE, good_rules(width=9), table), (2, [9]))
        self.assertEqual(columns(FACE, good_rules(width=8), table), (3, [4]))
        self.assertEqual(columns(FACE, good_rules(width=4), table), (3, [4]))

    def test_twice_a_blank_between(self):
        table = ((("ab",), ("c",), ("d",), ("m",)),)
        # 4 + 2 + 2 + 5 and 3 times 2
        self.assertEqual(columns(FACE, good_rules(width=19), table), (1, [4, 2, 2, 5]))
        refused(self, TooWide, columns, FACE, good_rules(width=18), table)

    def test_the_same_number_of_lines_for_all_columns(self):
        table = ((("ab", "cd", "ef"), ("gh", "ij")),)
        self.assertEqual(columns(FACE, good_rules(width=24), table), (1, [14, 8]))
        self.assertEqual(columns(FACE, good_rules(width=23), table), (2, [9, 4]))
        self.assertEqual(columns(FACE, good_rules(width=15), table), (2, [9, 4]))
        self.assertEqual(columns(FACE, good_rules(width=14), table), (3, [4, 4]))
        refused(self, TooWide, columns, FACE, good_rules(width=9), table)

    def test_all_rows_count(self):
        table = ((("a",), ("mm",)), (("mmm",), ()), ((), ("i", "i")))
        self.assertEqual(columns(FACE, good_rules(width=27), table), (1, [15, 10]))
        refused(self, TooWide, columns, FACE, good_rules(width=26), table)

    def test_empty_cells(self):
        self.assertEqual(columns(FACE, good_rules(width=4), (((),),)), (1, [1]))
        self.assertEqual(columns(FACE, good_rules(width=4), (((), ()),)), (1, [1, 1]))
        refused(self, TooWide, columns, FACE, good_rules(width=6), (((), (), ()),))
        self.assertEqual(columns(FACE, good_rules(width=7), (((), (), ()),)), (1, [1, 1, 1]))
        refused(self, TooWide, columns, (20, 20, ()), good_rules(width=40), (((), ()),))

    def test_a_word_wider_than_the_width(self):
        refused(self, TooWide, columns, FACE, good_rules(width=9), ((("abcde",),),))
        self.assertEqual(columns(FACE, good_rules(width=10), ((("abcde",),),)), (1, [10]))

    def test_against_a_search_number_by_number(self):
        chance = random.Random(17)
        refusals = 0
        for _ in range(300):
            face, table = face_by_chance(chance), table_by_chance(chance)
            widest = sum(columns(face, good_rules(width=10 ** 6), table)[1]) + 2 * face[1] * (len(table[0]) - 1)
            for width in [widest, widest - 1, widest // 2, chance.randint(1, widest), widest + 1]:
                expected = searched_columns(face, width, table)
                if expected is None:
                    refusals += 1
                    refused(self, TooWide, columns, face, good_rules(width=width), table)
                else:
                    self.assertEqual(columns(face, good_rules(width=width), table), expected)
        self.assertGreater(refusals, 50)

    def test_kinds(self):
        told = columns(FACE, good_rules(), ((("a",), ("b",)),))
        self.assertIs(told.__class__, tuple)
        self.assertIs(told[1].__class__, list)

    def test_what_is_handed_in_stays_as_it_was(self):
        rules, table = good_rules(width=15), ((("ab", "cd", "ef"), ("gh", "ij")),)
        before = copy.deepcopy((rules, table))
        columns(FACE, rules, table)[1].clear()
        self.assertEqual((rules, table), before)
        self.assertEqual(columns(FACE, rules, table), (2, [9, 4]))


class SetRowTest(unittest.TestCase):
    def test_cell_by_cell_and_line_by_line(self):
        row = (("ab", "cd", "ef"), (), ("gh", "ij"))
        self.assertEqual(
            set_row(FACE, row, [9, 3, 4]),
            (2, [(0, 0, "ab cd"), (1, 0, "ef"), (0, 16, "gh"), (1, 16, "ij")]))

    def test_the_lefts(self):
        told = set_row((2, 3, ()), (("a",), ("b",), ("c",), ("d",)), [10, 20, 30, 40])
        self.assertEqual(told, (1, [(0, 0, "a"), (0, 16, "b"), (0, 42, "c"), (0, 78, "d")]))

    def test_the_height_is_at_least_1(self):
        self.assertEqual(set_row(FACE, ((),), [1]), (1, []))
        self.assertEqual(set_row(FACE, ((), (), ()), [1, 1, 1]), (1, []))
        self.assertEqual(set_row(FACE, (("a",), ()), [2, 1]), (1, [(0, 0, "a")]))

    def test_the_height_is_the_greatest_number_of_lines(self):
        self.assertEqual(set_row(FACE, (("a",), ("b", "c", "d"), ("e", "f")), [2, 2, 2])[0], 3)
        self.assertEqual(set_row(FACE, (("a", "b", "c", "d"), ("e",)), [2, 2])[0], 4)

    def test_widths_wider_than_they_need_be(self):
        self.assertEqual(set_row(FACE, (("a", "b"), ("c",)), [100, 50]), (1, [(0, 0, "a b"), (0, 102, "c")]))

    def test_a_word_wider_than_its_column(self):
        self.assertEqual(set_row(FACE, (("mm", "i", "i"), ("c",)), [3, 2]), (2, [(0, 0, "mm"), (1, 0, "i i"), (0, 5, "c")]))

    def test_in_the_columns_of_its_table(self):
        chance = random.Random(171)
        for _ in range(200):
            face, table = face_by_chance(chance), table_by_chance(chance)
            widest = sum(columns(face, good_rules(width=10 ** 6), table)[1]) + 2 * face[1] * 3
            try:
                lines, widths = columns(face, good_rules(width=chance.randint(1, widest)), table)
            except TooWide:
                continue
            for row in table:
                height, spots = set_row(face, row, widths)
                self.assertEqual({spot.__class__ for spot in spots} | {tuple}, {tuple})
                self.assertLessEqual(height, lines)
                self.assertEqual(height, max([top + 1 for top, left, text in spots], default=1))
                lefts = [sum(widths[:at]) + 2 * face[1] * at for at in range(len(widths))]
                for at, cell in enumerate(row):
                    own = [spot for spot in spots if spot[1] == lefts[at]]
                    self.assertEqual(" ".join([spot[2] for spot in own]), " ".join(cell))
                    self.assertEqual([spot[0] for spot in own], list(range(len(own))))
                    self.assertLessEqual(max([wide(face, spot[2]) for spot in own], default=0), widths[at])
                self.assertEqual(spots, sorted(spots, key=lambda spot: (spot[1], spot[0])))

    def test_what_is_handed_in_stays_as_it_was(self):
        row, widths = (("ab", "cd"), ("e",)), [4, 2]
        set_row(FACE, row, widths)[1].clear()
        self.assertEqual((row, widths), ((("ab", "cd"), ("e",)), [4, 2]))
        self.assertEqual(set_row(FACE, row, widths), (2, [(0, 0, "ab"), (1, 0, "cd"), (0, 6, "e")]))


if __name__ == "__main__":
    unittest.main()
