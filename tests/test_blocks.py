"""Point 8: blocks."""

import copy
import unittest

from quirehand.blocks import is_block, need_blocks
from quirehand.errors import BadBlocks
from helper import SIGNS, Stubborn, in_itself, refused, things, words

NO_WORDS = ["", "a" * 41, "a b", " ", "a{", "=", "|", "~", "\n", 5, None, True, ("a",), ["a"], b"a", Stubborn(), in_itself()]


def text(*notes):
    """A text of as many words as there are arguments, each a word's tuple of notes."""
    return ("text", tuple([("a", part) for part in notes]))


def noted_text(many):
    """A text with so many notes, at most three a word."""
    return text(*[((("n",),) * min(3, many - begin)) for begin in range(0, many, 3)])


class BlockTest(unittest.TestCase):
    def good(self, block, name=""):
        with self.subTest(good=name or repr(block)[:80]):
            self.assertIs(is_block(block), True)
            self.assertIs(need_blocks([block]), True)

    def bad(self, block, name=""):
        with self.subTest(bad=name):
            self.assertIs(is_block(block), False)
            refused(self, BadBlocks, need_blocks, [block])
            refused(self, BadBlocks, need_blocks, [("leaf",), block])
            refused(self, BadBlocks, need_blocks, [block, ("leaf",)])

    def test_heads(self):
        for many in range(1, 13):
            self.good(("head", words(many)))
        self.good(("head", ("a" * 40,)))
        self.good(("head", tuple(SIGNS[:12])))
        self.bad(("head", ()), "no words")
        self.bad(("head", words(13)), "13 words")
        self.bad(("head", ["a"]), "a list of words")
        self.bad(("head", "a"), "a text")
        self.bad(("head", {"a": 1}), "a dict")
        self.bad(("head", (("a",),)), "a tuple more")

    def test_texts(self):
        self.good(text(()))
        self.good(text((), (("b", "c"),), ()))
        self.good(("text", (("a", ()),) * 200), "200 pairs")
        self.bad(("text", (("a", ()),) * 201), "201 pairs")
        self.bad(("text", ()), "no pairs")
        self.bad(("text", [("a", ())]), "a list of pairs")
        self.bad(("text", (["a", ()],)), "a list for a pair")
        self.bad(("text", ("a",)), "a word for a pair")
        self.bad(("text", ("ab",)), "a text of two signs for a pair")
        self.bad(("text", (("a",),)), "a pair of one")
        self.bad(("text", (("a", (), ()),)), "a pair of three")
        self.bad(("text", ("a", ())), "a pair in the place of the pairs")
        self.bad(("text", (((), "a"),)), "a pair turned about")

    def test_notes(self):
        for many in range(4):
            self.good(text((("b",),) * many))
        self.bad(text((("b",),) * 4), "4 notes")
        for many in [1, 2, 29, 30]:
            self.good(text((words(many),)))
        self.bad(text(((),)), "a note of no words")
        self.bad(text((words(31),)), "a note of 31 words")
        self.bad(text([("b",)]), "a list of notes")
        self.bad(text((["b"],)), "a list for a note")
        self.bad(text(("b",)), "a word for a note")
        self.bad(text("b"), "a word for the notes")
        self.bad(text(None), "None for the notes")
        self.bad(text({}), "a dict for the notes")
        self.bad(text((("b",), ("b",), ())), "the last note without words")

    def test_tables(self):
        self.good(("table", (((),),)))
        for cells in range(1, 5):
            self.good(("table", (((),) * cells,)))
            self.good(("table", ((("a",),) * cells,) * 20))
        self.good(("table", ((words(12), ()),)))
        self.bad(("table", ()), "no rows")
        self.bad(("table", ((),)), "no cells")
        self.bad(("table", ((("a",),),) * 21), "21 rows")
        self.bad(("table", ((("a",),) * 5,)), "5 cells")
        self.bad(("table", ((("a",),) * 4, (("a",),) * 5)), "5 cells in the last row")
        self.bad(("table", ((words(13),),)), "13 words in a cell")
        self.bad(("table", ((("a",),), (("a",), ("a",)))), "more cells in the second row")
        self.bad(("table", ((("a",), ("a",)), (("a",),))), "fewer cells in the second row")
        self.bad(("table", [(("a",),)]), "a list of rows")
        self.bad(("table", ([("a",)],)), "a list for a row")
        self.bad(("table", ((["a"],),)), "a list for a cell")
        self.bad(("table", (("a",),)), "a word for a cell")
        self.bad(("table", ("a",)), "a word for a row")
        self.bad(("table", "a"), "a word for the rows")

    def test_leaves(self):
        self.good(("leaf",))
        self.bad(("leaf", ()), "too long")
        self.bad(("leaf", ("a",)), "with words")
        self.bad(["leaf"], "a list")
        self.bad("leaf", "a text")

    def test_no_word_in_the_place_of_a_word(self):
        for at, word in enumerate(NO_WORDS):
            self.bad(("head", (word,)), f"a head, {at}")
            self.bad(("head", ("a", word)), f"a head's last word, {at}")
            self.bad(("text", ((word, ()),)), f"a text, {at}")
            self.bad(("text", (("a", ()), (word, ()))), f"a text's last word, {at}")
            self.bad(text(((word,),)), f"a note, {at}")
            self.bad(text((("b",), ("b", word))), f"the last word of a word's last note, {at}")
            self.bad(("table", (((word,),),)), f"a table, {at}")
            self.bad(("table", ((("a",), ()), ((), ("a", word)))), f"the last word of a table's last cell, {at}")

    def test_unknown_kinds(self):
        for kind in ["", "Head", "HEAD", "heads", "note", "page", "head ", 0, 1, None, True, ("head",), b"head", ["leaf"], Stubborn()]:
            for rest in [(), (("a",),), ((("a", ()),),), (((("a",),),),)]:
                self.bad((kind,) + rest, "an unknown kind")

    def test_a_kinds_part_under_another_kind(self):
        parts = {"head": ("a",), "text": (("a", ()),), "table": ((("a",),),)}
        for kind in parts:
            for other in parts:
                if kind != other:
                    self.bad((kind, parts[other]), f"{kind} with the part of a {other}")

    def test_tuples_too_long_or_too_short(self):
        self.bad((), "empty")
        for kind, part in [("head", ("a",)), ("text", (("a", ()),)), ("table", ((("a",),),))]:
            self.bad((kind,), f"{kind} alone")
            self.bad((kind, part, part), f"{kind} with two parts")
            self.bad((kind, part, None), f"{kind} and None")
            self.bad([kind, part], f"{kind} in a list")
            self.bad({0: kind, 1: part}, f"{kind} in a dict")
            self.bad((part, kind), f"{kind} behind its part")

    def test_any_thing(self):
        for name, thing in things():
            self.bad(thing, name)
            self.bad((thing,), f"{name} as the kind")
            self.bad((thing, thing), f"{name} as the kind and the part")
            self.bad(("leaf", thing), f"{name} behind a leaf")
            self.bad(("head", (thing,)), f"{name} as a head's word")
            self.bad(("text", thing), f"{name} as a text's pairs")
            self.bad(("text", (thing,)), f"{name} as a text's pair")
            self.bad(("text", ((thing, ()),)), f"{name} as a text's word")
            self.bad(("table", thing), f"{name} as a table's rows")
            self.bad(("table", (thing,)), f"{name} as a table's row")
            self.bad(("table", (((thing,),),)), f"{name} as a cell's word")
            # The tuple of one sign is good where words stand, the empty one where there may be none.
            if name != "a tuple":
                self.bad(("head", thing), f"{name} as a head's words")
                self.bad(text((thing,)), f"{name} as a note")
            if name != "an empty tuple":
                self.bad(text(thing), f"{name} as a word's notes")
            if name not in ("a tuple", "an empty tuple"):
                self.bad(("table", ((thing,),)), f"{name} as a cell")


class BlocksTest(unittest.TestCase):
    def refuse(self, blocks, name):
        with self.subTest(refused=name):
            refused(self, BadBlocks, need_blocks, blocks)

    def test_0_to_40_blocks(self):
        for many in [0, 1, 2, 39, 40]:
            self.assertIs(need_blocks([("leaf",)] * many), True)
        self.refuse([("leaf",)] * 41, "41 blocks")
        self.refuse([("leaf",)] * 500, "500 blocks")

    def test_60_notes_in_all(self):
        self.assertIs(need_blocks([noted_text(60)]), True)
        self.assertIs(need_blocks([noted_text(30), ("leaf",), noted_text(30)]), True)
        self.assertIs(need_blocks([noted_text(2)] * 30), True)
        self.refuse([noted_text(61)], "61 notes in one text")
        self.refuse([noted_text(30), noted_text(31)], "61 notes in two texts")
        self.refuse([noted_text(2)] * 30 + [noted_text(1)], "61 notes in many texts")

    def test_a_block_may_have_more_than_60_notes(self):
        self.assertIs(is_block(noted_text(61)), True)
        self.assertIs(is_block(noted_text(600)), True)

    def test_what_is_no_list(self):
        for blocks in [(), (("leaf",),), {}, "", "leaf", 0, None, ("leaf",), {("leaf",)}, iter([])]:
            self.refuse(blocks, repr(blocks))
        for name, thing in things():
            if name != "an empty list":
                self.refuse(thing, name)
            self.refuse([thing], f"a list of {name}")

    def test_blocks_stay_as_they_were(self):
        for blocks in [[("head", ("a",)), ("leaf",)], [("head", ["a"])], [["leaf"]], [("leaf",)] * 41]:
            before = copy.deepcopy(blocks)
            try:
                need_blocks(blocks)
            except BadBlocks:
                pass
            self.assertEqual(blocks, before)

    def test_blocks_that_are_changed_are_asked_anew(self):
        blocks = [("leaf",)]
        self.assertIs(need_blocks(blocks), True)
        blocks.append(("leaf", ()))
        self.refuse(blocks, "changed to bad ones")
        blocks.pop()
        self.assertIs(need_blocks(blocks), True)


if __name__ == "__main__":
    unittest.main()
