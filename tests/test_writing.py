"""Point 10: blocks written as a text."""

import copy
import random
import unittest

from quirehand.blocks import need_blocks
from quirehand.errors import BadBlocks
from quirehand.reading import read
from quirehand.writing import written
from helper import SIGNS, refused, things, words

HEAD = ("head", ("On", "texts"))
TEXT = ("text", (("a", ()), ("b", (("c", "d"), ("e",))), ("f.", ())))
TABLE = ("table", ((("a", "b"), (), ("c",)), ((), (), ("d",))))
LEAF = ("leaf",)


def word_by_chance(chance):
    return "".join([chance.choice(SIGNS) for _ in range(chance.choice([1, 1, 2, 5, 12, 40]))])


def words_by_chance(chance, least, most):
    return tuple([word_by_chance(chance) for _ in range(chance.randint(least, most))])


def block_by_chance(chance):
    kind = chance.choice(["head", "text", "table", "leaf"])
    if kind == "head":
        return (kind, words_by_chance(chance, 1, 12))
    if kind == "text":
        return (kind, tuple([
            (word_by_chance(chance), tuple([words_by_chance(chance, 1, 5) for _ in range(chance.choice([0, 0, 0, 1, 2, 3]))]))
            for _ in range(chance.randint(1, 9))]))
    if kind == "table":
        cells = chance.randint(1, 4)
        return (kind, tuple([
            tuple([words_by_chance(chance, 0, 4) for _ in range(cells)]) for _ in range(chance.randint(1, 5))]))
    return (kind,)


class WrittenTest(unittest.TestCase):
    def test_no_blocks(self):
        self.assertEqual(written([]), "")

    def test_each_kind(self):
        self.assertEqual(written([HEAD]), "= On texts")
        self.assertEqual(written([("head", ("a",))]), "= a")
        self.assertEqual(written([TEXT]), "a b{c d}{e} f.")
        self.assertEqual(written([("text", (("a", ()),))]), "a")
        self.assertEqual(written([TABLE]), "| a b |  | c |\n|  |  | d |")
        self.assertEqual(written([LEAF]), "~")

    def test_empty_cells(self):
        self.assertEqual(written([("table", (((),),))]), "|  |")
        self.assertEqual(written([("table", (((), ()), (("a",), ())))]), "|  |  |\n| a |  |")

    def test_several_blocks(self):
        self.assertEqual(
            written([HEAD, TEXT, LEAF, LEAF, TABLE]),
            "= On texts\n\na b{c d}{e} f.\n\n~\n\n~\n\n| a b |  | c |\n|  |  | d |")

    def test_three_notes_behind_a_word(self):
        self.assertEqual(written([("text", (("a", (("b",), ("c",), ("d",))), ("e", (("f",),))))]), "a{b}{c}{d} e{f}")

    def test_a_text_stands_in_one_row(self):
        told = written([("text", tuple([("word", (words(30),)) for _ in range(60)] + [("w", ())] * 140))])
        self.assertNotIn("\n", told)

    def test_what_is_written_is_read_to_the_same_blocks(self):
        chance = random.Random(10)
        for _ in range(500):
            blocks = [block_by_chance(chance) for _ in range(chance.randint(0, 6))]
            try:
                need_blocks(blocks)
            except BadBlocks:
                continue
            told = written(blocks)
            self.assertEqual(read(told), blocks)
            self.assertEqual(written(read(told)), told)
            self.assertEqual(told, told.strip("\n"))

    def test_every_sign_as_a_word(self):
        block = ("text", tuple([(sign, ((sign,),)) if at < 60 else (sign, ()) for at, sign in enumerate(SIGNS)]))
        self.assertEqual(read(written([block])), [block])
        for sign in SIGNS:
            blocks = [("head", (sign,)), ("text", ((sign, ()),)), ("table", (((sign,),),)), LEAF]
            self.assertEqual(read(written(blocks)), blocks)

    def test_the_bounds(self):
        blocks = [("table", ((words(12, "w" * 40),) * 4,) * 20), ("head", words(12)), ("text", (("a", ()),) * 200)]
        self.assertEqual(read(written(blocks)), blocks)
        self.assertEqual(read(written([LEAF] * 40)), [LEAF] * 40)

    def test_no_blocks_of_point_8_are_refused(self):
        noted = ("text", (("a", (("n",),)),) * 30)
        bad = [
            [LEAF] * 41, [noted, noted, ("text", (("a", (("n",),)),))], [["leaf"]], [("head", ())], [("text", ())],
            [("head", ["a"])], [HEAD, None], (), (HEAD,), {}, "", "a", 0, None, [("head", ("a b",))], [("leaf", ())],
        ]
        for blocks in bad:
            with self.subTest(blocks=repr(blocks)[:60]):
                refused(self, BadBlocks, written, blocks)
        self.assertEqual(len(read(written([noted, noted]))), 2)

    def test_any_thing_may_be_refused(self):
        for name, thing in things():
            with self.subTest(thing=name):
                if name != "an empty list":
                    refused(self, BadBlocks, written, thing)
                refused(self, BadBlocks, written, [HEAD, thing])

    def test_the_blocks_stay_as_they_were(self):
        blocks = [HEAD, TEXT, TABLE, LEAF]
        before = copy.deepcopy(blocks)
        written(blocks)
        self.assertEqual(blocks, before)


if __name__ == "__main__":
    unittest.main()
