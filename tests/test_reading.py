"""Point 9: blocks read from a text."""

import unittest

from quirehand.blocks import need_blocks
from quirehand.errors import BadText
from quirehand.reading import read
from helper import SIGNS, TEN, things


def plain(line):
    return ("text", tuple([(word, ()) for word in line.split()]))


def noted_words(many):
    """A line with so many notes, one a word."""
    return " ".join(["w{n}"] * many)


class ReadTest(unittest.TestCase):
    def reads(self, text, blocks):
        with self.subTest(text=text[:60]):
            self.assertEqual(read(text), blocks)
            self.assertIs(need_blocks(read(text)), True)

    def refuses(self, text, row=0, name=""):
        with self.subTest(text=name or repr(text)[:60]):
            try:
                told = read(text)
            except Exception as error:
                self.assertEqual([kind for kind in TEN if isinstance(error, kind)], [BadText])
                self.assertEqual(error.row, row)
                self.assertIs(error.row.__class__, int)
                return
            self.fail(f"read as {told!r}")

    def refuses_everywhere(self, rows):
        """A block of these rows is refused with its first row, wherever it stands."""
        self.refuses("\n".join(rows))
        self.refuses("\n\n" + "\n".join(rows), 2)
        self.refuses("a\nb\n \n" + "\n".join(rows) + "\n\nc", 3)
        self.refuses("\n".join(rows) + "\n\n=", 0)
        self.refuses("\n".join(["  " + row + " " for row in rows]), 0)

    def test_nothing(self):
        for text in ["", " ", "\n", "\n\n\n", "   \n  \n ", " \n"]:
            self.reads(text, [])

    def test_a_head(self):
        self.reads("= a", [("head", ("a",))])
        self.reads("= On the  setting of   texts", [("head", ("On", "the", "setting", "of", "texts"))])
        self.reads("=     a", [("head", ("a",))])
        self.reads("   =  a b   ", [("head", ("a", "b"))])
        self.reads("= " + " ".join(["w"] * 12), [("head", ("w",) * 12)])

    def test_bad_heads(self):
        for row in ["=", "=a", "==", "== a", "= =", "= a = b", "= " + " ".join(["w"] * 13), "= a{b}", "= a|b", "= " + "a" * 41, "a ="]:
            self.refuses_everywhere([row])
        self.refuses_everywhere(["= a", "b"])
        self.refuses_everywhere(["= a", "= b"])
        self.refuses_everywhere(["=", "a"])
        self.refuses_everywhere(["a", "= b"])

    def test_a_leaf(self):
        self.reads("~", [("leaf",)])
        self.reads("   ~  ", [("leaf",)])
        self.reads("~\n\n~", [("leaf",), ("leaf",)])

    def test_bad_leaves(self):
        for row in ["~~", "~ ~", "~ a", "a ~", "~a", "a~", "~{a}", "= ~", "| ~ |"]:
            self.refuses_everywhere([row])
        self.refuses_everywhere(["~", "~"])
        self.refuses_everywhere(["~", "a"])
        self.refuses_everywhere(["a", "~"])

    def test_a_table(self):
        self.reads("| a b | | c |", [("table", ((("a", "b"), (), ("c",)),))])
        self.reads("|a|", [("table", ((("a",),),))])
        self.reads("| a |\n| b |", [("table", ((("a",),), (("b",),)))])
        self.reads("  |a   b|c|  \n |d| e |", [("table", ((("a", "b"), ("c",)), (("d",), ("e",))))])
        self.reads("| a | b | c | d |", [("table", ((("a",), ("b",), ("c",), ("d",)),))])

    def test_empty_cells(self):
        self.reads("||", [("table", (((),),))])
        self.reads("| |", [("table", (((),),))])
        self.reads("|    |", [("table", (((),),))])
        self.reads("||||", [("table", (((), (), ()),))])
        self.reads("| | a |\n|b||", [("table", (((), ("a",)), (("b",), ())))])

    def test_a_tables_bounds(self):
        self.reads("\n".join(["|a|"] * 20), [("table", ((("a",),),) * 20)])
        self.reads("|" + "a " * 12 + "|", [("table", ((("a",) * 12,),))])
        self.refuses_everywhere(["|a|"] * 21)
        self.refuses_everywhere(["|a|b|c|d|e|"])
        self.refuses_everywhere(["||||||"])
        self.refuses_everywhere(["|" + "a " * 13 + "|"])
        self.refuses_everywhere(["|" + "a" * 41 + "|"])

    def test_bad_tables(self):
        self.refuses_everywhere(["|"])
        self.refuses_everywhere(["| a"])
        self.refuses_everywhere(["a |"])
        self.refuses_everywhere(["| a | b"])
        self.refuses_everywhere(["| a |", "b"])
        self.refuses_everywhere(["b", "| a |"])
        self.refuses_everywhere(["| a |", "| b"])
        self.refuses_everywhere(["| a |", "|"])
        self.refuses_everywhere(["| a |", "| b | c |"])
        self.refuses_everywhere(["| a | b |", "| c |"])
        self.refuses_everywhere(["| a{b} |"])
        self.refuses_everywhere(["| = |"])
        self.refuses_everywhere(["| a |{b}"])
        self.refuses_everywhere(["= a", "| a |"])

    def test_a_text(self):
        self.reads("a", [plain("a")])
        self.reads("one two\nthree", [plain("one two three")])
        self.reads("  one    two  \n   three  ", [plain("one two three")])
        self.reads("- / ( ) . 'tis", [plain("- / ( ) . 'tis")])
        self.reads("".join(SIGNS[:40]) + " " + "".join(SIGNS[40:]), [plain("".join(SIGNS[:40]) + " " + "".join(SIGNS[40:]))])
        self.reads("a" * 40, [plain("a" * 40)])

    def test_a_texts_bounds(self):
        self.reads(" ".join(["w"] * 200), [plain(" ".join(["w"] * 200))])
        self.refuses_everywhere([" ".join(["w"] * 201)])
        self.refuses_everywhere(["w"] * 201)
        self.refuses_everywhere(["a" * 41])

    def test_other_signs(self):
        for code in range(ord(" ") + 1, ord("~") + 1):
            if chr(code) not in SIGNS and chr(code) != "%":
                self.refuses_everywhere(["ab " + chr(code) + " c"])
                self.refuses_everywhere(["ab" + chr(code) + "c d"])

    def test_blocks_side_by_side(self):
        self.reads(
            "= A\n\none\ntwo\n \n  \n| x |\n\n~\n\nthree\n",
            [("head", ("A",)), plain("one two"), ("table", ((("x",),),)), ("leaf",), plain("three")])
        self.reads("\n\na\n\nb\n   \nc\n\n", [plain("a"), plain("b"), plain("c")])

    def test_notes(self):
        self.reads("word{a b}{c}", [("text", (("word", (("a", "b"), ("c",))),))])
        self.reads("a{b} c", [("text", (("a", (("b",),)), ("c", ())))])
        self.reads("a{b}\nc{d}", [("text", (("a", (("b",),)), ("c", (("d",),))))])
        self.reads("a{b}{c}{d}", [("text", (("a", (("b",), ("c",), ("d",))),))])
        self.reads("a{   b    c  }", [("text", (("a", (("b", "c"),)),))])
        self.reads("a.{b.} (c){-}", [("text", (("a.", (("b.",),)), ("(c)", (("-",),))))])

    def test_a_note_over_several_rows(self):
        self.reads("a{b\nc\n   d} e", [("text", (("a", (("b", "c", "d"),)), ("e", ())))])
        self.reads("a{\nb\n}\nc", [("text", (("a", (("b",),)), ("c", ())))])
        self.reads("a{b\n}{c}", [("text", (("a", (("b",), ("c",))),))])

    def test_the_bounds_of_notes(self):
        self.reads("a{" + " ".join(["n"] * 30) + "}", [("text", (("a", (("n",) * 30,)),))])
        self.refuses_everywhere(["a{" + " ".join(["n"] * 31) + "}"])
        self.refuses_everywhere(["a{b}{b}{b}{b}"])
        self.refuses_everywhere(["a{" + "b" * 41 + "}"])

    def test_bad_notes(self):
        bad = [
            "a{}", "a{ }", "a{b}{}", "a {b}", "a{b} {c}", "{a}", "{a} b", "a{b", "a{", "a}", "a{b}}", "a}b", "}", "{", "a b}",
            "a{b{c}}", "a{b{c}d}", "a{{b}}", "a{b}c", "a{b}.", "a{b}-c", "a{b}{c}d", "a{b c", "a{=}", "a{|}", "a{~}", "a{b}|",
        ]
        for row in bad:
            self.refuses_everywhere([row])
        self.refuses_everywhere(["a", "{b}"])
        self.refuses_everywhere(["a{b}", "{c}"])
        self.refuses_everywhere(["a{", "}"])
        self.refuses_everywhere(["a{b", "c"])
        self.refuses_everywhere(["a{b", "c{d}"])

    def test_rows_without_signs_part_blocks_within_braces(self):
        self.refuses("a{b\n\nc}")
        self.refuses("a{b\n   \nc}")
        self.refuses("a\n\nb{c\n\nd}", 2)
        self.refuses("a\n\nb}", 2)
        self.refuses("a{b}\n\n{c}", 2)

    def test_40_blocks_and_41(self):
        self.reads("\n\n".join(["a"] * 40), [plain("a")] * 40)
        self.refuses("\n\n".join(["a"] * 41), 80)
        self.refuses("\n\n".join(["~"] * 45), 80)
        self.refuses("\n\n".join(["a"] * 40 + ["="]), 80)
        self.refuses("\n\n".join(["a"] * 39 + ["="] + ["a"] * 5), 78)
        self.refuses("\n" + "\n\n".join(["a\nb"] * 41), 121)

    def test_60_notes_and_61(self):
        self.assertEqual(len(read(noted_words(60))[0][1]), 60)
        self.assertEqual(len(read("\n\n".join([noted_words(20)] * 3))), 3)
        self.refuses(noted_words(61))
        self.refuses("a\n\n" + noted_words(61), 2)
        self.refuses(noted_words(60) + "\n\na\n\na{b} c", 4)
        self.refuses("\n\n".join([noted_words(30), noted_words(30), "= a", "a{b}{c}"]), 6)
        self.refuses("\n\n".join([noted_words(30), noted_words(31), "="]), 2)
        self.reads(noted_words(60) + "\n\na", read(noted_words(60)) + [plain("a")])

    def test_the_first_such_block(self):
        self.refuses("a\n\n=\n\n| a\n\n{", 2)
        self.refuses("a\nb\nc\n\n\n\n= a\n\nd\n{\n\n=", 8)

    def test_the_first_row_of_the_block(self):
        self.refuses("a\n\nb\nc\nd{e\nf", 2)
        self.refuses("\n \n  a\n b\n =", 2)

    def test_what_is_no_text(self):
        for name, thing in things() + [("bytes", b"a"), ("a list of rows", ["a"]), ("a block", ("leaf",))]:
            self.refuses(thing, 0, name)

    def test_told_lists_are_the_askers_own(self):
        told = read("a\n\nb")
        told.append("more")
        self.assertEqual(read("a\n\nb"), [plain("a"), plain("b")])

    def test_everything_but_the_list_is_a_tuple(self):
        def look(thing):
            self.assertIn(thing.__class__, (tuple, str))
            if isinstance(thing, tuple):
                for part in thing:
                    look(part)
        told = read("= a\n\n| a | |\n| b | c |\n\nx{y z} w\n\n~")
        self.assertIs(told.__class__, list)
        for block in told:
            look(block)

    def test_a_great_text(self):
        self.refuses("a " * 100000 + "\n" + "a{b} " * 100000)
        self.reads("\n" * 100000 + "a", [plain("a")])


if __name__ == "__main__":
    unittest.main()
