"""Point 19: set rows."""

import copy
import random
import unittest

from quirehand.breaking import broken
from quirehand.columns import columns, set_row
from quirehand.errors import TooWide
from quirehand.marks import noted
from quirehand.pieces import lay_of, pieces_of
from quirehand.rowing import note_rows, rows_of
from quirehand.spreading import spread
from helper import good_rules, refused

FACE = (1, 1, ())
NARROW = good_rules(width=10, ahead=1, behind=1, part=0)


def rows(block, book=(), rules=NARROW, face=FACE):
    notes, pairs = noted([block])
    return rows_of(face, list(book), rules, block, pairs[0])


def text_by_chance(chance):
    return ("text", tuple([
        ("".join([chance.choice("abc-") for _ in range(chance.randint(1, 7))]), (("n",),) * chance.choice([0, 0, 1, 2, 3]))
        for _ in range(chance.randint(1, 15))]))


class RowsTest(unittest.TestCase):
    def test_a_head(self):
        self.assertEqual(
            rows(("head", ("One", "two", "three", "four"))),
            [(1, [(0, 0, "One"), (0, 7, "two")], 0), (1, [(0, 0, "three"), (0, 6, "four")], 0)])

    def test_a_text(self):
        block = ("text", (("one", ()), ("two", ()), ("three", ()), ("four", ()), ("five", ())))
        self.assertEqual(rows(block), [
            (1, [(0, 0, "one"), (0, 7, "two")], 0), (1, [(0, 0, "three"), (0, 6, "four")], 0), (1, [(0, 0, "five")], 0)])

    def test_a_leaf(self):
        self.assertEqual(rows(("leaf",)), [])

    def test_a_table(self):
        block = ("table", ((("a", "b", "c"), ("d",)), ((), ()), (("e",), ("f", "g"))))
        self.assertEqual(columns(FACE, NARROW, block[1]), (1, [5, 3]))
        self.assertEqual(rows(block), [
            (1, [(0, 0, "a b c"), (0, 7, "d")], 0), (1, [], 0), (1, [(0, 0, "e"), (0, 7, "f g")], 0)])
        block = ("table", ((("aa", "bb", "cc"), ("d",)), ((), ()), (("e",), ("f", "g", "h", "i"))))
        self.assertEqual(rows(block, rules=good_rules(width=10)), [
            (2, [(0, 0, "aa bb"), (1, 0, "cc"), (0, 7, "d")], 0), (1, [], 0), (2, [(0, 0, "e"), (0, 7, "f g"), (1, 7, "h i")], 0)])

    def test_a_table_that_is_too_wide(self):
        block = ("table", ((("a" * 11,),),))
        refused(self, TooWide, rows_of, FACE, [], NARROW, block, [])
        self.assertEqual(len(rows(block, rules=good_rules(width=11))), 1)

    def test_nothing_else_is_too_wide(self):
        self.assertEqual(rows(("head", ("a" * 40,))), [(1, [(0, 0, "a" * 40)], 0)])

    def test_a_tail_stands_behind_its_word(self):
        block = ("text", (("one", (("n",), ("m",))), ("two", ())))
        self.assertEqual(rows(block), [(1, [(0, 0, "one(1)(2)")], 2), (1, [(0, 0, "two")], 0)])

    def test_marks_of_several_words_in_a_row(self):
        block = ("text", (("a", (("n",),)), ("b", ()), ("c", (("n",),)), ("dddddd", (("n",),)), ("e", ())))
        self.assertEqual([row[2] for row in rows(block, rules=good_rules(width=11))], [2, 1])

    def test_a_mark_stands_where_the_last_piece_of_its_word_stands(self):
        block = ("text", (("aaaaa", ()), ("bbbccc", (("n",), ("n",))), ("d", (("n",),))))
        told = rows(block, ["b-c"])
        self.assertEqual(told, [
            (1, [(0, 0, "aaaaa"), (0, 6, "bbb-")], 0), (1, [(0, 0, "ccc(1)(2)")], 2), (1, [(0, 0, "d(3)")], 1)])

    def test_a_word_over_three_rows(self):
        block = ("text", (("aaaaaaaabbbbbbbbcccc", (("n",),)), ("d", ())))
        told = rows(block, ["a-b", "b-c"])
        self.assertEqual([row[2] for row in told], [0, 0, 1])
        self.assertEqual(told[2], (1, [(0, 0, "cccc(1)"), (0, 8, "d")], 1))

    def test_lines_of_the_best_breaks_spread_out(self):
        chance = random.Random(19)
        book = ["a-b", "b-c", "c=a", "cc-a"]
        for _ in range(300):
            block = text_by_chance(chance)
            rules = good_rules(width=chance.randint(6, 25), ahead=1, behind=1, part=chance.choice([0, 50]))
            face = (chance.randint(1, 3), chance.randint(1, 2), (("a", 1), ("b", 4)))
            pairs = noted([block])[1][0]
            pieces, lay = pieces_of(face, book, rules, pairs), lay_of(face, rules)
            breaks = broken(pieces, lay)
            told = rows_of(face, book, rules, block, pairs)
            self.assertEqual(len(told), len(breaks))
            for begin, end, row in zip([0] + breaks, breaks, told):
                self.assertEqual(row[:2], (1, [(0, left, text) for left, text in spread(pieces, lay, begin, end)]))
                # A mark is seen by its bracket.
                self.assertEqual(row[2], "".join([spot[2] for spot in row[1]]).count("("))
            self.assertEqual(sum([row[2] for row in told]), sum([len(notes) for word, notes in block[1]]))

    def test_brackets_of_the_words_own_are_no_marks(self):
        block = ("text", (("(a)", ()), ("b(1)", (("n",),))))
        self.assertEqual(rows(block, rules=good_rules(width=30)), [(1, [(0, 0, "(a)"), (0, 4, "b(1)(1)")], 1)])

    def test_tables_rows_as_set_row_tells_them(self):
        face, rules = (3, 2, (("a", 1),)), good_rules(width=40)
        table = ((("aa", "b"), (), ("c", "d", "e")), ((), ("ab", "ba", "aa"), ()))
        widths = columns(face, rules, table)[1]
        told = rows_of(face, [], rules, ("table", table), [])
        self.assertEqual(told, [set_row(face, row, widths) + (0,) for row in table])

    def test_kinds(self):
        for block in [("head", ("a", "b")), ("text", (("a", ()),)), ("table", ((("a",),),))]:
            for row in rows(block):
                self.assertIs(row.__class__, tuple)
                self.assertEqual([part.__class__ for part in row], [int, list, int])
                self.assertEqual({spot.__class__ for spot in row[1]}, {tuple})

    def test_what_is_handed_in_stays_as_it_was(self):
        book, rules = ["a-b"], good_rules(width=10)
        for block in [("head", ("a", "b")), ("text", (("aab", (("n",),)),)), ("table", ((("a",),),)), ("leaf",)]:
            pairs = noted([block])[1][0]
            before = copy.deepcopy((book, rules, block, pairs))
            told = rows_of(FACE, book, rules, block, pairs)
            again = copy.deepcopy(told)
            for row in told:
                row[1].clear()
            told.clear()
            self.assertEqual((book, rules, block, pairs), before)
            self.assertEqual(rows_of(FACE, book, rules, block, pairs), again)


class NoteRowsTest(unittest.TestCase):
    def test_the_number_and_a_point_first(self):
        self.assertEqual(note_rows(FACE, [], NARROW, 3, ("a", "b")), [(1, [(0, 0, "3."), (0, 3, "a"), (0, 5, "b")], 0)])
        self.assertEqual(note_rows(FACE, [], NARROW, 60, ("a",)), [(1, [(0, 0, "60."), (0, 4, "a")], 0)])

    def test_set_as_a_paragraph(self):
        told = note_rows(FACE, ["n-o"], NARROW, 12, ("one", "nnnnoooo", "x"))
        self.assertEqual(told, [
            (1, [(0, 0, "12."), (0, 7, "one")], 0), (1, [(0, 0, "nnnnoooo"), (0, 9, "x")], 0)])
        told = note_rows(FACE, ["n-o"], NARROW, 1, ("nnnnnoooooooo", "x"))
        self.assertEqual(told, [
            (1, [(0, 0, "1."), (0, 4, "nnnnn-")], 0), (1, [(0, 0, "oooooooo"), (0, 9, "x")], 0)])

    def test_brackets_in_a_note_are_no_marks(self):
        self.assertEqual([row[2] for row in note_rows(FACE, [], NARROW, 1, ("(1)", "a(2)", "b"))], [0, 0])

    def test_like_a_text_of_the_same_words(self):
        chance = random.Random(191)
        for _ in range(100):
            words = tuple(["".join([chance.choice("abc-") for _ in range(chance.randint(1, 7))]) for _ in range(chance.randint(1, 30))])
            number = chance.randint(1, 60)
            block = ("text", tuple([(word, ()) for word in (f"{number}.",) + words]))
            self.assertEqual(note_rows(FACE, ["a-b"], NARROW, number, words), rows(block, ["a-b"]))

    def test_what_is_handed_in_stays_as_it_was(self):
        book, rules, note = ["a-b"], good_rules(width=10), ("a", "b", "abababababab")
        before = copy.deepcopy((book, rules, note))
        told = note_rows(FACE, book, rules, 1, note)
        again = copy.deepcopy(told)
        told[0][1].clear()
        told.clear()
        self.assertEqual((book, rules, note), before)
        self.assertEqual(note_rows(FACE, book, rules, 1, note), again)


if __name__ == "__main__":
    unittest.main()
