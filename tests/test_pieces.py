"""Point 11: lays and rows of pieces."""

import copy
import random
import unittest

from quirehand.errors import BadWord
from quirehand.faces import wide
from quirehand.parting import parted
from quirehand.pieces import lay_of, pieces_of
from helper import good_rules, refused, things

FACE = (5, 3, (("(", 2), ("-", 4), ("i", 1), ("m", 9)))
RULES = good_rules(ahead=1, behind=1)


class LayTest(unittest.TestCase):
    def test_its_six_keys(self):
        rules = good_rules(width=77, part=11, twin=22, over=33)
        self.assertEqual(lay_of(FACE, rules), {"width": 77, "part": 11, "twin": 22, "over": 33, "blank": 3, "dash": 4})

    def test_the_dash_of_a_face_without_it_in_odd(self):
        lay = lay_of((6, 2, (("a", 1),)), RULES)
        self.assertEqual((lay["blank"], lay["dash"]), (2, 6))

    def test_the_lay_is_the_askers_own(self):
        rules = good_rules()
        before = dict(rules)
        lay = lay_of(FACE, rules)
        lay["width"] = 1
        lay.clear()
        self.assertEqual(rules, before)
        self.assertEqual(lay_of(FACE, rules)["width"], 60)
        other = lay_of(FACE, rules)
        rules["width"] = 99
        self.assertEqual(other["width"], 60)


class PiecesTest(unittest.TestCase):
    def test_a_word_in_one_piece(self):
        self.assertEqual(pieces_of(FACE, [], RULES, [("mine", "")]), [("mine", 20, "blank")])

    def test_a_parted_word(self):
        self.assertEqual(
            pieces_of(FACE, ["i-n"], RULES, [("mi-mine", "")]),
            [("mi-", 14, "soft"), ("mi", 10, "part"), ("ne", 10, "blank")])

    def test_the_tail_is_put_to_the_last_piece(self):
        self.assertEqual(
            pieces_of(FACE, ["i-n"], RULES, [("mine", "(1)(2)")]),
            [("mi", 10, "part"), ("ne(1)(2)", 10 + 2 * (2 + 5 + 5), "blank")])
        self.assertEqual(pieces_of(FACE, [], RULES, [("i", "(1)")]), [("i(1)", 13, "blank")])

    def test_the_tail_parts_nothing(self):
        self.assertEqual(
            pieces_of(FACE, ["a-b"], RULES, [("a", "b"), ("x", "ab"), ("y-", "a"), ("z", "-a")]),
            [("ab", 10, "blank"), ("xab", 15, "blank"), ("y-a", 14, "blank"), ("z-a", 14, "blank")])

    def test_a_long_word_with_a_long_tail(self):
        told = pieces_of(FACE, [], RULES, [("a" * 40, "(58)(59)(60)")])
        self.assertEqual([piece[0] for piece in told], ["a" * 40 + "(58)(59)(60)"])

    def test_word_by_word(self):
        pairs = [("mine", ""), ("is", "(1)"), ("a", "")]
        self.assertEqual(
            pieces_of(FACE, ["i-n"], RULES, pairs),
            [("mi", 10, "part"), ("ne", 10, "blank"), ("is(1)", 18, "blank"), ("a", 5, "blank")])

    def test_the_rules_ahead_and_behind(self):
        self.assertEqual(len(pieces_of(FACE, ["i-n"], good_rules(ahead=3, behind=1), [("mine", "")])), 1)

    def test_by_chance(self):
        chance = random.Random(11)
        book = ["a-b", "b-a", "i-m", "m=i", "ab=a"]
        for _ in range(300):
            pairs = [
                ("".join([chance.choice("abimAB-.") for _ in range(chance.randint(1, 9))]), chance.choice(["", "", "(7)", "(8)(9)"]))
                for _ in range(chance.randint(1, 6))]
            expected = []
            for word, tail in pairs:
                texts = parted(book, RULES, word)
                texts[-1] = (texts[-1][0] + tail, texts[-1][1])
                expected += [(text, wide(FACE, text), join) for text, join in texts]
            told = pieces_of(FACE, book, RULES, pairs)
            self.assertEqual(told, expected)
            self.assertEqual({piece.__class__ for piece in told}, {tuple})

    def test_no_word_is_refused_at_any_place(self):
        for bad in ["", "a b", "a" * 41, " ", "{", "a\n"] + [thing for name, thing in things()]:
            refused(self, BadWord, pieces_of, FACE, ["a-b"], RULES, [(bad, "")])
            refused(self, BadWord, pieces_of, FACE, ["a-b"], RULES, [(bad, "(1)"), ("a", "")])
            refused(self, BadWord, pieces_of, FACE, ["a-b"], RULES, [("a", ""), (bad, ""), ("b", "")])
            refused(self, BadWord, pieces_of, FACE, ["a-b"], RULES, [("a", ""), ("b", "(1)"), (bad, "")])

    def test_what_is_handed_in_stays_as_it_was(self):
        book, rules, pairs = ["i-n"], good_rules(), [("mine", "(1)"), ("is", "")]
        before = copy.deepcopy((book, rules, pairs))
        told = pieces_of(FACE, book, rules, pairs)
        told.clear()
        self.assertEqual((book, rules, pairs), before)
        self.assertEqual(len(pieces_of(FACE, book, good_rules(behind=1), pairs)), 3)


if __name__ == "__main__":
    unittest.main()
