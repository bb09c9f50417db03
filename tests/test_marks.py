"""Point 18: notes and their numbers."""

import copy
import unittest

from quirehand.marks import noted

LEAF = ("leaf",)
TABLE = ("table", ((("a", "b"), ()),))


class NotedTest(unittest.TestCase):
    def test_nothing(self):
        self.assertEqual(noted([]), ([], []))

    def test_words_without_notes_have_empty_tails(self):
        self.assertEqual(noted([("text", (("a", ()), ("b", ())))]), ([], [[("a", ""), ("b", "")]]))

    def test_a_head(self):
        self.assertEqual(noted([("head", ("a", "b"))]), ([], [[("a", ""), ("b", "")]]))

    def test_tables_and_leaves(self):
        self.assertEqual(noted([TABLE, LEAF, TABLE]), ([], [[], [], []]))

    def test_tails(self):
        block = ("text", (("a", (("n", "m"),)), ("b", ()), ("c", (("o",), ("p",))), ("d", (("q",), ("r",), ("s",)))))
        self.assertEqual(noted([block]), (
            [("n", "m"), ("o",), ("p",), ("q",), ("r",), ("s",)],
            [[("a", "(1)"), ("b", ""), ("c", "(2)(3)"), ("d", "(4)(5)(6)")]]))

    def test_over_several_blocks(self):
        blocks = [
            ("head", ("h",)), ("text", (("a", (("n",),)),)), LEAF, TABLE, ("text", (("b", ()),)),
            ("text", (("c", (("o",), ("n",))), ("d", (("p",),)))),
        ]
        self.assertEqual(noted(blocks), (
            [("n",), ("o",), ("n",), ("p",)],
            [[("h", "")], [("a", "(1)")], [], [], [("b", "")], [("c", "(2)(3)"), ("d", "(4)")]]))

    def test_numbers_of_two_figures(self):
        blocks = [("text", (("a", (("n",), ("n",), ("n",))),) * 10)] * 2
        notes, pairs = noted(blocks)
        self.assertEqual(len(notes), 60)
        tails = "".join([tail for part in pairs for word, tail in part])
        self.assertEqual(tails, "".join([f"({number})" for number in range(1, 61)]))
        self.assertEqual(pairs[0][3], ("a", "(10)(11)(12)"))
        self.assertEqual(pairs[1][9], ("a", "(58)(59)(60)"))

    def test_kinds(self):
        told = noted([("text", (("a", (("n",),)),)), ("head", ("h",)), LEAF])
        self.assertIs(told.__class__, tuple)
        self.assertEqual([part.__class__ for part in told], [list, list])
        self.assertEqual([part.__class__ for part in told[1]], [list, list, list])
        self.assertEqual([pair.__class__ for part in told[1] for pair in part], [tuple, tuple])

    def test_what_is_handed_in_stays_as_it_was(self):
        blocks = [("text", (("a", (("n",),)),)), ("head", ("h",)), LEAF]
        before = copy.deepcopy(blocks)
        notes, pairs = noted(blocks)
        notes.clear()
        pairs[0].clear()
        pairs.pop()
        self.assertEqual(blocks, before)
        self.assertEqual(noted(blocks), ([("n",)], [[("a", "(1)")], [("h", "")], []]))


if __name__ == "__main__":
    unittest.main()
