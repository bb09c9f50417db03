"""Points 27 and 1: the desk."""

import copy
import random
import unittest
from unittest import mock

from quirehand.blocks import need_blocks
from quirehand.book import Book
from quirehand.breaking import broken
from quirehand.desk import Desk
from quirehand.errors import BadBlocks, BadBook, BadFace, BadRules, NoPlace, TooWide
from quirehand.marks import noted
from quirehand.pieces import pieces_of
from quirehand.writing import written
from helper import block_by_chance, good_rules, refused, things

FACE = (1, 1, ())
BOOK = ["a-b", "b-a", "n-t"]
RULES = good_rules(width=12, height=6, ahead=1, behind=1, part=5, twin=9, lone=10, late=20, over=50)
HEAD = ("head", ("A", "head"))
TEXT = ("text", (("one", ()), ("two", (("its", "note"),)), ("three", ())))
TABLE = ("table", ((("a",), ("b",)),))
LEAF = ("leaf",)
WIDE = ("table", ((("a" * 13,),),))
NO_PLACES = [-1, -2, 100, True, False, "0", "", None, [], [0], (0,), {}, 0.0, 1.0, 10 ** 5000, float("nan")]
NO_BLOCKS = [("head", ()), ["leaf"], ("leaf", ()), ("head", ["a"]), ("text", (("a b", ()),)), "leaf", None, 5, (), []]


def noted_text(many):
    return ("text", (("a", (("n",),)),) * many)


def rows_of_pieces(blocks, rules=RULES):
    """The different rows of pieces of heads, texts and notes."""
    notes, pairs = noted(blocks)
    all_pairs = [own for own in pairs if own]
    all_pairs += [[(f"{number}.", "")] + [(word, "") for word in note] for number, note in enumerate(notes, start=1)]
    return {tuple(pieces_of(FACE, BOOK, rules, own)) for own in all_pairs}


def desk_with(*blocks):
    desk = Desk(FACE, BOOK, RULES)
    for at, block in enumerate(blocks):
        desk.put(at, block)
    return desk


class DeskCase(unittest.TestCase):
    def tells(self, desk):
        return copy.deepcopy((desk.blocks(), desk.text(), desk.pages(), desk.fresh()))

    def stays(self, desk, kind, ask, *handed):
        """It is refused, and changes nothing."""
        before = self.tells(desk)
        refused(self, kind, ask, *handed)
        self.assertEqual(self.tells(desk), before)


class MakingTest(unittest.TestCase):
    def test_nothing_at_first(self):
        desk = Desk(FACE, BOOK, RULES)
        self.assertEqual((desk.blocks(), desk.text(), desk.pages(), desk.fresh()), ([], "", [], 0))

    def test_refusals(self):
        for name, thing in things():
            with self.subTest(thing=name):
                refused(self, BadFace, Desk, thing, BOOK, RULES)
                refused(self, BadRules, Desk, FACE, BOOK, thing)
                refused(self, BadFace, Desk, thing, thing, thing)
                if name != "an empty list":
                    refused(self, BadBook, Desk, FACE, thing, RULES)
                    refused(self, BadBook, Desk, FACE, thing, thing)

    def test_the_order(self):
        refused(self, BadFace, Desk, None, None, None)
        refused(self, BadFace, Desk, None, BOOK, None)
        refused(self, BadFace, Desk, None, None, RULES)
        refused(self, BadBook, Desk, FACE, None, None)
        refused(self, BadRules, Desk, FACE, BOOK, None)


class DeedTest(DeskCase):
    def test_put(self):
        desk = Desk(FACE, BOOK, RULES)
        self.assertIsNone(desk.put(0, TEXT))
        self.assertEqual(desk.blocks(), [TEXT])
        self.assertIsNone(desk.put(0, HEAD))
        self.assertEqual(desk.blocks(), [HEAD, TEXT])
        desk.put(2, LEAF)
        self.assertEqual(desk.blocks(), [HEAD, TEXT, LEAF])
        desk.put(1, TABLE)
        self.assertEqual(desk.blocks(), [HEAD, TABLE, TEXT, LEAF])

    def test_take(self):
        desk = desk_with(HEAD, TABLE, TEXT, LEAF)
        self.assertEqual(desk.take(1), TABLE)
        self.assertEqual(desk.blocks(), [HEAD, TEXT, LEAF])
        self.assertEqual(desk.take(2), LEAF)
        self.assertEqual(desk.take(0), HEAD)
        self.assertEqual(desk.take(0), TEXT)
        self.assertEqual((desk.blocks(), desk.text(), desk.pages()), ([], "", []))

    def test_change(self):
        desk = desk_with(HEAD, TABLE, TEXT)
        self.assertEqual(desk.change(1, LEAF), TABLE)
        self.assertEqual(desk.blocks(), [HEAD, LEAF, TEXT])
        self.assertEqual(desk.change(0, TEXT), HEAD)
        self.assertEqual(desk.change(2, HEAD), TEXT)
        self.assertEqual(desk.blocks(), [TEXT, LEAF, HEAD])

    def test_text(self):
        desk = desk_with(HEAD, TEXT, LEAF, TABLE)
        self.assertEqual(desk.text(), "= A head\n\none two{its note} three\n\n~\n\n| a | b |")

    def test_pages(self):
        desk = desk_with(HEAD, TEXT, LEAF, TABLE)
        self.assertEqual(desk.pages(), Book(desk.text(), FACE, BOOK, RULES).pages())
        self.assertEqual(len(desk.pages()), 2)

    def test_no_place(self):
        desk = desk_with(HEAD, TEXT)
        for at in NO_PLACES + [3]:
            self.stays(desk, NoPlace, desk.put, at, LEAF)
        for at in NO_PLACES + [2, 3]:
            self.stays(desk, NoPlace, desk.take, at)
            self.stays(desk, NoPlace, desk.change, at, LEAF)
        for name, thing in things():
            if name not in ("nought", "one"):
                with self.subTest(thing=name):
                    self.stays(desk, NoPlace, desk.put, thing, LEAF)
                    self.stays(desk, NoPlace, desk.take, thing)
                    self.stays(desk, NoPlace, desk.change, thing, LEAF)

    def test_no_place_on_an_empty_desk(self):
        desk = Desk(FACE, BOOK, RULES)
        for at in [0, 1, -1]:
            self.stays(desk, NoPlace, desk.take, at)
            self.stays(desk, NoPlace, desk.change, at, LEAF)
        self.stays(desk, NoPlace, desk.put, 1, LEAF)
        desk.put(0, LEAF)
        self.assertEqual(desk.blocks(), [LEAF])

    def test_no_block(self):
        desk = desk_with(HEAD, TEXT)
        for block in NO_BLOCKS + [thing for name, thing in things()]:
            self.stays(desk, BadBlocks, desk.put, 0, block)
            self.stays(desk, BadBlocks, desk.put, 2, block)
            self.stays(desk, BadBlocks, desk.change, 1, block)

    def test_the_41st_block(self):
        desk = desk_with(*[LEAF] * 40)
        for at in [0, 20, 40]:
            self.stays(desk, BadBlocks, desk.put, at, LEAF)
        self.assertEqual(desk.change(39, HEAD), LEAF)
        self.assertEqual(desk.take(0), LEAF)
        desk.put(0, TEXT)
        self.assertEqual(len(desk.blocks()), 40)

    def test_more_than_60_notes_in_all(self):
        desk = desk_with(noted_text(30), HEAD, noted_text(30))
        self.stays(desk, BadBlocks, desk.put, 0, noted_text(1))
        self.stays(desk, BadBlocks, desk.change, 1, noted_text(1))
        self.stays(desk, BadBlocks, desk.change, 0, noted_text(31))
        self.assertEqual(desk.change(0, noted_text(29)), noted_text(30))
        desk.put(3, noted_text(1))
        self.stays(desk, BadBlocks, desk.put, 0, noted_text(1))

    def test_a_table_that_is_too_wide(self):
        desk = desk_with(HEAD, TEXT)
        for at in [0, 1, 2]:
            self.stays(desk, TooWide, desk.put, at, WIDE)
        self.stays(desk, TooWide, desk.change, 0, WIDE)

    def test_the_order_of_the_refusals(self):
        desk = desk_with(HEAD)
        self.stays(desk, NoPlace, desk.put, 2, None)
        self.stays(desk, NoPlace, desk.put, 2, WIDE)
        self.stays(desk, NoPlace, desk.change, 1, None)
        self.stays(desk, NoPlace, desk.change, 1, WIDE)
        desk = desk_with(*[LEAF] * 40)
        self.stays(desk, BadBlocks, desk.put, 0, WIDE)
        self.stays(desk, NoPlace, desk.put, 41, WIDE)
        self.stays(desk, TooWide, desk.change, 0, WIDE)

    def test_what_was_refused_may_be_done_later(self):
        desk = Desk(FACE, BOOK, RULES)
        self.stays(desk, NoPlace, desk.put, 1, TEXT)
        desk.put(0, HEAD)
        self.stays(desk, TooWide, desk.put, 1, WIDE)
        desk.put(1, TEXT)
        self.assertEqual(desk.fresh(), 2)
        self.assertEqual(desk.blocks(), [HEAD, TEXT])
        self.assertEqual(desk.pages(), Book(desk.text(), FACE, BOOK, RULES).pages())


class FreshTest(DeskCase):
    def test_a_head_and_a_text_with_a_note(self):
        desk = Desk(FACE, BOOK, RULES)
        desk.put(0, HEAD)
        self.assertEqual(desk.fresh(), 1)
        desk.put(1, TEXT)
        self.assertEqual(desk.fresh(), 2)

    def test_tables_and_leaves_have_none(self):
        desk = desk_with(HEAD)
        for block in [TABLE, LEAF]:
            desk.put(0, block)
            self.assertEqual(desk.fresh(), 0)

    def test_the_same_row_twice_counts_once(self):
        desk = Desk(FACE, BOOK, RULES)
        desk.put(0, ("text", (("a", (("n",),)), ("b", ()))))
        self.assertEqual(desk.fresh(), 2)
        desk.put(1, ("text", (("A", ()), ("head", ()))))
        self.assertEqual(desk.fresh(), 1)
        desk.put(2, HEAD)
        self.assertEqual(desk.fresh(), 0)
        desk.put(0, HEAD)
        self.assertEqual(desk.fresh(), 0)

    def test_a_note_like_a_text(self):
        desk = desk_with(("text", (("1.", ()), ("n", ()))))
        desk.put(1, ("text", (("a", (("n",),)),)))
        self.assertEqual(desk.fresh(), 1)

    def test_two_new_rows_that_are_the_same(self):
        desk = Desk(FACE, BOOK, RULES)
        # The text and its note: both are "1." and "n(1)".
        desk.put(0, ("text", (("1.", ()), ("n", (("n(1)",),)))))
        self.assertEqual(desk.fresh(), 1)
        desk = Desk(FACE, BOOK, RULES)
        desk.put(0, ("text", (("a", (("n",), ("n",))),)))
        self.assertEqual(desk.fresh(), 3)

    def test_a_block_taken_and_put_again(self):
        desk = desk_with(HEAD, TEXT)
        self.assertEqual(desk.take(1), TEXT)
        self.assertEqual(desk.fresh(), 0)
        desk.put(1, TEXT)
        self.assertEqual(desk.fresh(), 2)

    def test_a_block_that_stands_twice(self):
        desk = desk_with(HEAD, HEAD)
        self.assertEqual(desk.fresh(), 0)
        desk.take(0)
        self.assertEqual(desk.fresh(), 0)
        desk.put(0, HEAD)
        self.assertEqual(desk.fresh(), 0)

    def test_a_block_changed_to_itself(self):
        desk = desk_with(HEAD, TEXT)
        desk.change(1, TEXT)
        self.assertEqual(desk.fresh(), 0)

    def test_notes_whose_numbers_change(self):
        desk = desk_with(HEAD, TEXT)
        # The new text and its note, and the old ones with another number.
        desk.put(1, ("text", (("a", (("n",),)),)))
        self.assertEqual(desk.fresh(), 4)
        desk.take(1)
        self.assertEqual(desk.fresh(), 2)

    def test_a_place_among_others_changes_nothing(self):
        desk = desk_with(TEXT, HEAD)
        desk.take(1)
        desk.put(0, LEAF)
        self.assertEqual(desk.fresh(), 0)

    def test_what_is_refused_is_no_deed(self):
        desk = desk_with(TEXT)
        self.assertEqual(desk.fresh(), 2)
        refused(self, NoPlace, desk.take, 5)
        refused(self, BadBlocks, desk.put, 0, None)
        refused(self, TooWide, desk.put, 0, WIDE)
        self.assertEqual(desk.fresh(), 2)
        desk.put(1, HEAD)
        self.assertEqual(desk.fresh(), 1)

    def test_asking_is_no_deed(self):
        desk = desk_with(TEXT)
        for _ in range(2):
            desk.pages(), desk.text(), desk.blocks()
            self.assertEqual(desk.fresh(), 2)


class DeedsByChanceTest(DeskCase):
    def deed(self, chance, desk, expected):
        """One deed done, or refused, on the desk and on a plain list."""
        many = len(expected)
        at, block = chance.randint(0, max(many, 1)), block_by_chance(chance)
        kind = chance.choice(["put", "put", "take", "change"])
        blocks = list(expected)
        if kind == "put" and at <= many:
            blocks.insert(at, block)
        elif kind != "put" and at < many:
            blocks[at:at + 1] = [block] if kind == "change" else []
        else:
            self.stays(desk, NoPlace, *((desk.take, at) if kind == "take" else (desk.put if kind == "put" else desk.change, at, block)))
            return expected
        handed = (at,) if kind == "take" else (at, block)
        ask = {"put": desk.put, "take": desk.take, "change": desk.change}[kind]
        try:
            need_blocks(blocks)
            Book(written(blocks), FACE, BOOK, RULES)
        except (BadBlocks, TooWide) as error:
            self.stays(desk, error.__class__, ask, *handed)
            return expected
        told = ask(*handed)
        self.assertEqual(told, None if kind == "put" else expected[at])
        return blocks

    def test_pages_are_those_of_a_book_of_the_text(self):
        chance = random.Random(27)
        for _ in range(8):
            desk, expected = Desk(FACE, BOOK, RULES), []
            for _ in range(40):
                before = expected
                fresh = desk.fresh()
                expected = self.deed(chance, desk, expected)
                self.assertEqual(desk.blocks(), expected)
                self.assertEqual(desk.text(), written(expected))
                self.assertEqual(desk.pages(), Book(written(expected), FACE, BOOK, RULES).pages())
                if expected is before:
                    self.assertEqual(desk.fresh(), fresh)
                else:
                    self.assertEqual(desk.fresh(), len(rows_of_pieces(expected) - rows_of_pieces(before)))

    def test_only_fresh_rows_are_broken_anew(self):
        chance = random.Random(271)
        asked = []

        def counted(pieces, lay):
            asked.append(tuple(pieces))
            return broken(pieces, lay)

        with mock.patch("quirehand.proof.broken", counted):
            desk, expected = Desk(FACE, BOOK, RULES), []
            for _ in range(80):
                at, block = chance.randint(0, len(expected)), block_by_chance(chance)
                before = rows_of_pieces(expected)
                asked.clear()
                try:
                    desk.put(at, block)
                except (BadBlocks, TooWide):
                    continue
                expected.insert(at, block)
                desk.pages()
                self.assertEqual(len(asked), desk.fresh())
                self.assertEqual(set(asked), rows_of_pieces(expected) - before)
                if len(expected) > 6:
                    expected.pop(0)
                    desk.take(0)


class OwnTest(DeskCase):
    def test_what_is_handed_in_stays_as_it_was(self):
        joints, rules, block = list(BOOK), dict(RULES), copy.deepcopy(TEXT)
        desk = Desk(FACE, joints, rules)
        desk.put(0, block)
        desk.change(0, block)
        desk.pages()
        self.assertEqual((joints, rules, block), (BOOK, RULES, TEXT))

    def test_what_is_changed_behind_the_making_changes_nothing(self):
        joints, rules = list(BOOK), dict(RULES)
        desk, other = Desk(FACE, joints, rules), desk_with()
        joints.clear()
        rules.clear()
        for at, block in enumerate([HEAD, ("text", (("ababab", ()),) * 5), TABLE]):
            desk.put(at, block)
            other.put(at, block)
        self.assertEqual(self.tells(desk), self.tells(other))

    def test_what_the_asker_changes_changes_nothing_told_later(self):
        desk = desk_with(HEAD, TEXT)
        before = self.tells(desk)
        desk.blocks().clear()
        pages = desk.pages()
        pages[0][0].clear()
        pages[0][2].append("more")
        pages.clear()
        self.assertEqual(self.tells(desk), before)

    def test_what_is_done_later_changes_nothing_that_was_told(self):
        desk = desk_with(HEAD, TEXT)
        told = (desk.blocks(), desk.text(), desk.pages())
        before = copy.deepcopy(told)
        desk.put(0, TEXT)
        desk.change(1, LEAF)
        desk.take(2)
        desk.pages()
        self.assertEqual(told, before)

    def test_two_desks_in_turn(self):
        first, second = desk_with(HEAD), desk_with(TEXT)
        first.put(1, TEXT)
        self.assertEqual(first.fresh(), 2)
        second.put(1, TABLE)
        self.assertEqual((first.fresh(), second.fresh()), (2, 0))
        self.assertEqual((first.blocks(), second.blocks()), ([HEAD, TEXT], [TEXT, TABLE]))


if __name__ == "__main__":
    unittest.main()
