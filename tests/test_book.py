"""Points 26 and 1: a text set into pages."""

import copy
import random
import unittest

from quirehand.book import Book
from quirehand.breaking import broken
from quirehand.errors import BadBook, BadFace, BadRules, BadText, NoNote, TooWide
from quirehand.filling import filled, leaf_prices
from quirehand.galley import strips_of
from quirehand.lines import total
from quirehand.marks import noted
from quirehand.pieces import lay_of, pieces_of
from quirehand.placing import placed
from quirehand.reading import read
from quirehand.rowing import note_rows, rows_of
from helper import good_rules, refused, text_by_chance, things

FACE = (1, 1, ())
BOOK = ["a-b", "b-a", "n-t", "ab=a"]
RULES = good_rules(width=12, height=6, ahead=1, behind=1, part=5, twin=9, lone=10, late=20, over=50)
TEXT = "= First head\n\none{first note} two three\n\n~\n\n= Second\n\n| a b | c |\n| | d |\n\nfour{second}{third} five"
WIDE = "| " + "a" * 13 + " |"


def by_stages(text, face, book, rules):
    """All that a book tells, by the stages one after the other."""
    blocks = read(text)
    notes, pairs = noted(blocks)
    rows = [rows_of(face, book, rules, block, own) for block, own in zip(blocks, pairs)]
    set_notes = [note_rows(face, book, rules, number, note) for number, note in enumerate(notes, start=1)]
    heights = [sum([row[0] for row in note]) for note in set_notes]
    strips = strips_of(rules, [block[0] for block in blocks], rows)
    leaves = filled(strips, heights, rules)
    pages = placed(rules, strips, [row for own in rows for row in own], set_notes, leaves)
    lay = lay_of(face, rules)
    all_pairs = [own for own in pairs if own]
    all_pairs += [[(f"{number}.", "")] + [(word, "") for word in note] for number, note in enumerate(notes, start=1)]
    all_pieces = [pieces_of(face, book, rules, own) for own in all_pairs]
    breaks = sum([total(pieces, lay, broken(pieces, lay)) for pieces in all_pieces])
    return pages, (breaks, leaf_prices(strips, heights, rules)[0][0])


def lines_of(spots):
    """The texts of a page's body or foot without tables, line by line."""
    tops = sorted({top for top, left, text in spots})
    return [" ".join([text for top, left, text in spots if top == at]) for at in tops]


class RefusalTest(unittest.TestCase):
    good = {"text": TEXT, "face": FACE, "book": BOOK, "rules": RULES}
    order = [("face", BadFace), ("book", BadBook), ("rules", BadRules), ("text", BadText)]

    def ask(self, **others):
        parts = dict(self.good, **others)
        return Book(parts["text"], parts["face"], parts["book"], parts["rules"])

    def test_any_thing_may_be_refused(self):
        for name, kind in self.order:
            for thing_name, thing in things():
                with self.subTest(name=name, thing=thing_name):
                    if (name, thing_name) != ("book", "an empty list"):
                        refused(self, kind, lambda: self.ask(**{name: thing}))

    def test_the_order(self):
        for first in range(len(self.order)):
            bad = {name: None for name, kind in self.order[first:]}
            refused(self, self.order[first][1], lambda: self.ask(**bad))
            for second in range(first + 1, len(self.order)):
                two = {self.order[first][0]: 5, self.order[second][0]: 5}
                refused(self, self.order[first][1], lambda: self.ask(**two))

    def test_bad_text_goes_ahead_of_too_wide(self):
        refused(self, TooWide, lambda: self.ask(text=WIDE))
        refused(self, BadText, lambda: self.ask(text=WIDE + "\n\n="))
        refused(self, BadRules, lambda: self.ask(text=WIDE, rules={}))
        refused(self, BadFace, lambda: self.ask(text=WIDE, face=()))
        refused(self, BadBook, lambda: self.ask(text=WIDE, book=()))

    def test_the_row_of_a_bad_text(self):
        for text, row in [("a\n\n=", 2), ("=", 0), (5, 0), (None, 0), ("a\nb\n\n\nc\nd{", 4), ("~\n\n" * 41, 80)]:
            with self.assertRaises(BadText) as taken:
                self.ask(text=text)
            self.assertEqual(taken.exception.row, row)

    def test_a_table_that_is_too_wide(self):
        refused(self, TooWide, lambda: self.ask(text="a\n\n" + WIDE))
        refused(self, TooWide, lambda: self.ask(text="| aaaaaa | bbbbb |"))
        self.assertEqual(len(self.ask(text="| aaaaaa | bbbb |").pages()), 1)

    def test_nothing_else_is_too_wide(self):
        long = "a" * 40
        book = self.ask(text=f"= {long}\n\n{long}{{{long}}}")
        self.assertEqual(book.pages()[-1][2][-1][2], long)


class BookTest(unittest.TestCase):
    def test_no_blocks(self):
        for text in ["", "\n \n", "~", "~\n\n~"]:
            book = Book(text, FACE, BOOK, RULES)
            self.assertEqual((book.pages(), book.heads(), book.costs()), ([], [], (0, 0)))
            refused(self, NoNote, book.note, 1)

    def test_a_small_book(self):
        book = Book(TEXT, FACE, [], RULES)
        self.assertEqual(book.pages(), [
            ([(0, 0, "First"), (0, 6, "head"), (2, 0, "one(1)"), (2, 9, "two")],
             3, [(4, 0, "1."), (4, 7, "first"), (5, 0, "note")]),
            ([(0, 0, "three")], None, []),
            ([(0, 0, "Second"), (2, 0, "a b"), (2, 5, "c"), (3, 5, "d")], None, []),
            ([(0, 0, "four(2)(3)"), (1, 0, "five")], 3, [(4, 0, "2."), (4, 3, "second"), (5, 0, "3."), (5, 3, "third")]),
        ])
        self.assertEqual(book.heads(), [("First head", 1), ("Second", 3)])
        self.assertEqual([book.note(number) for number in (1, 2, 3)], [(1, 1), (4, 4), (4, 4)])
        # Spares of 2, 2 and 4; the text cut into two lone rows, and a page with two spare rows.
        self.assertEqual(book.costs(), (4 + 4 + 16, 20 + 4))

    def test_one_page_row_by_row(self):
        book = Book("= A head\n\none{its note} two three", FACE, [], good_rules(width=12, height=9, gap=1))
        self.assertEqual(book.pages(), [(
            [(0, 0, "A"), (0, 2, "head"), (2, 0, "one(1)"), (2, 9, "two"), (3, 0, "three")],
            7, [(8, 0, "1."), (8, 3, "its"), (8, 7, "note")])])
        self.assertEqual(book.heads(), [("A head", 1)])
        self.assertEqual(book.note(1), (1, 1))
        # The line "one(1) two" has a spare of 2.
        self.assertEqual(book.costs(), (4, 0))

    def test_two_pages_row_by_row(self):
        rules = good_rules(width=12, height=3, gap=1, lone=0, late=20)
        book = Book("one two three four\n\n~\n\n= Head\n\nfive six", FACE, [], rules)
        self.assertEqual(book.pages(), [
            ([(0, 0, "one"), (0, 9, "two"), (1, 0, "three"), (1, 6, "four")], None, []),
            ([(0, 0, "Head"), (2, 0, "five"), (2, 5, "six")], None, [])])
        self.assertEqual(book.heads(), [("Head", 2)])
        self.assertEqual(book.costs(), (25, 0))

    def test_a_note_put_off(self):
        rules = good_rules(width=12, height=2, gap=0, late=20, over=50)
        book = Book("aaaaaaaaa{n}\n\nbbbb", FACE, [], rules)
        self.assertEqual(book.pages(), [
            ([(0, 0, "aaaaaaaaa(1)")], None, []),
            ([(0, 0, "bbbb")], 1, [(2, 0, "1."), (2, 3, "n")])])
        self.assertEqual(book.note(1), (1, 2))
        # A spare row, the note put off, and a row beyond the height.
        self.assertEqual(book.costs(), (0, 1 + 20 + 50))

    def test_against_the_stages(self):
        chance = random.Random(26)
        pages = 0
        for _ in range(150):
            text, rules, face = text_by_chance(chance)
            expected = by_stages(text, face, BOOK, rules)
            book = Book(text, face, BOOK, rules)
            self.assertEqual(book.pages(), expected[0])
            self.assertEqual(book.costs(), expected[1])
            pages += len(expected[0])
        self.assertGreater(pages, 300)

    def test_every_word_once_and_in_order(self):
        chance = random.Random(261)
        for _ in range(60):
            words = [f"w{at}abab" for at in range(chance.randint(1, 80))]
            notes = []
            text = ""
            for at, word in enumerate(words):
                text += word
                if chance.random() < 0.1:
                    notes.append(f"n{at}abnt")
                    text += "{" + notes[-1] + "}"
                text += chance.choice([" ", " ", "\n", " ", "\n\n"])
            book = Book(text, FACE, BOOK, dict(RULES, height=chance.randint(2, 12)))
            told, feet = "", ""
            for body, rule, foot in book.pages():
                told += "".join([(line + " ").replace("- ", "") for line in lines_of(body)])
                feet += "".join([(line + " ").replace("- ", "") for line in lines_of(foot)])
            marks = [word.split("(")[0] for word in told.split()]
            self.assertEqual(marks, words)
            expected = [part for at, note in enumerate(notes, start=1) for part in (f"{at}.", note)]
            self.assertEqual(feet.split(), expected)

    def test_every_note_on_the_page_of_its_mark_or_the_next_one(self):
        chance = random.Random(262)
        put_off = 0
        for _ in range(80):
            text, rules, face = text_by_chance(chance)
            book = Book(text, face, BOOK, dict(rules, late=0))
            pages = book.pages()
            many = len(noted(read(text))[0])
            for number in range(1, many + 1):
                mark = [at for at, page in enumerate(pages, start=1) for spot in page[0] if f"({number})" in spot[2]]
                note = [at for at, page in enumerate(pages, start=1) for spot in page[2] if f"{number}." == spot[2]]
                self.assertEqual((len(mark), len(note)), (1, 1))
                self.assertEqual(book.note(number), (mark[0], note[0]))
                self.assertIn(note[0] - mark[0], (0, 1))
                put_off += note[0] - mark[0]
        self.assertGreater(put_off, 10)

    def test_heads_with_the_page_of_their_first_row(self):
        text = "= A first head of rows\n\na\n\n~\n\n= B\n\n= C d\n\nb\n\n~\n\n~\n\n= E\n\n~"
        book = Book(text, FACE, [], RULES)
        self.assertEqual(book.heads(), [("A first head of rows", 1), ("B", 2), ("C d", 2), ("E", 3)])
        self.assertEqual({pair.__class__ for pair in book.heads()}, {tuple})

    def test_heads_by_chance(self):
        chance = random.Random(263)
        for _ in range(60):
            heads = [f"h{at} x y zzzzzz" for at in range(chance.randint(1, 9))]
            text = "\n\n".join([f"= {head}\n\n" + "word " * chance.randint(1, 20) for head in heads])
            book = Book(text, FACE, [], dict(RULES, height=chance.randint(2, 12)))
            expected = []
            for head in heads:
                first = head.split()[0]
                expected += [(head, at) for at, page in enumerate(book.pages(), start=1) for spot in page[0] if spot[2] == first]
            self.assertEqual(book.heads(), expected)

    def test_no_notes_number(self):
        book = Book(TEXT, FACE, BOOK, RULES)
        for number in [0, 4, -1, 5, 100, True, False, "1", "", None, [1], (1,), {}, 1.0, 10 ** 5000]:
            refused(self, NoNote, book.note, number)
        for name, thing in things():
            if name != "one":
                with self.subTest(thing=name):
                    refused(self, NoNote, book.note, thing)

    def test_costs_count_each_row_of_pieces(self):
        once = Book("one two three four", FACE, [], dict(RULES, height=20)).costs()[0]
        twice = Book("one two three four\n\none two three four", FACE, [], dict(RULES, height=20)).costs()[0]
        self.assertGreater(once, 0)
        self.assertEqual(twice, 2 * once)
        self.assertEqual(Book(TEXT, FACE, BOOK, RULES).costs().__class__, tuple)


class OwnTest(unittest.TestCase):
    def tells(self, book):
        return copy.deepcopy((book.pages(), book.heads(), [book.note(number) for number in (1, 2, 3)], book.costs()))

    def test_what_is_handed_in_stays_as_it_was(self):
        joints, rules = list(BOOK), dict(RULES)
        self.tells(Book(TEXT, FACE, joints, rules))
        self.assertEqual((joints, rules), (BOOK, RULES))
        self.assertEqual(list(rules), list(RULES))

    def test_what_is_changed_behind_the_making_changes_nothing(self):
        joints, rules = list(BOOK), dict(RULES)
        expected = self.tells(Book(TEXT, FACE, joints, rules))
        book = Book(TEXT, FACE, joints, rules)
        joints.clear()
        joints.append("nonsense")
        rules.clear()
        self.assertEqual(self.tells(book), expected)
        joints, rules = list(BOOK), dict(RULES)
        book = Book(TEXT, FACE, joints, rules)
        self.assertEqual(self.tells(book), expected)
        rules["height"] = 2
        rules["gap"] = 0
        joints.append("e-e")
        self.assertEqual(self.tells(book), expected)

    def test_what_the_asker_changes_changes_nothing_told_later(self):
        book = Book(TEXT, FACE, BOOK, RULES)
        expected = self.tells(book)
        pages = book.pages()
        for page in pages:
            page[0].clear()
            page[2].append((0, 0, "more"))
        pages.clear()
        book.heads().clear()
        self.assertEqual(self.tells(book), expected)

    def test_what_is_asked_later_changes_nothing_that_was_told(self):
        book = Book(TEXT, FACE, BOOK, RULES)
        pages, heads = book.pages(), book.heads()
        before = copy.deepcopy((pages, heads))
        book.pages()[0][0].clear()
        book.heads().clear()
        self.tells(book)
        self.assertEqual((pages, heads), before)

    def test_asked_in_any_order(self):
        expected = self.tells(Book(TEXT, FACE, BOOK, RULES))
        book = Book(TEXT, FACE, BOOK, RULES)
        self.assertEqual(book.costs(), expected[3])
        self.assertEqual(book.note(3), expected[2][2])
        self.assertEqual(book.heads(), expected[1])
        self.assertEqual(book.pages(), expected[0])
        self.assertEqual(self.tells(book), expected)

    def test_two_books_in_turn(self):
        other_text = "= Other\n\nsome{n} words{m} here{o} ab ba"
        first, second = Book(TEXT, FACE, BOOK, RULES), Book(other_text, (2, 1, ()), [], dict(RULES, width=20))
        told = self.tells(first), self.tells(second)
        self.assertEqual((self.tells(first), self.tells(second)), told)
        self.assertEqual(self.tells(Book(TEXT, FACE, BOOK, RULES)), told[0])
        self.assertNotEqual(told[0], told[1])


if __name__ == "__main__":
    unittest.main()
