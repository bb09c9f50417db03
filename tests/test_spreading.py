"""Point 15: lines spread out."""

import copy
import random
import unittest

from quirehand.breaking import broken
from quirehand.lines import cost, natural
from quirehand.pieces import lay_of, pieces_of
from quirehand.spreading import spread
from helper import good_lay, good_rules, lay_by_chance, row_by_chance

END = ("end", 3, "blank")


def plain_spread(pieces, lay, begin, end):
    """As point 15 says it: first the runs, then their lefts, then what is spare put ahead of each gap."""
    runs = [[]]
    for at in range(begin, end):
        runs[-1].append(pieces[at])
        if pieces[at][2] == "blank" and at < end - 1:
            runs.append([])
    texts = ["".join([piece[0] for piece in run]) for run in runs]
    if pieces[end - 1][2] == "part":
        texts[-1] += "-"
    lefts = [sum([piece[1] for run in runs[:at] for piece in run]) + at * lay["blank"] for at in range(len(runs))]
    spare = lay["width"] - natural(pieces, lay, begin, end)
    gaps = len(runs) - 1
    if end != len(pieces) and spare > 0 and gaps:
        for at in range(1, len(runs)):
            lefts[at] += at * (spare // gaps) + min(at, spare % gaps)
    return list(zip(lefts, texts))


class SpreadTest(unittest.TestCase):
    def test_one_run(self):
        self.assertEqual(spread([("ab", 4, "blank"), END], good_lay(), 0, 1), [(0, "ab")])
        self.assertEqual(spread([("ab", 4, "soft"), ("c", 2, "blank"), END], good_lay(), 0, 2), [(0, "abc")])
        self.assertEqual(spread([("ab", 4, "blank")], good_lay(), 0, 1), [(0, "ab")])

    def test_no_spare(self):
        pieces = [("ab", 4, "blank"), ("c", 5, "blank"), END]
        self.assertEqual(spread(pieces, good_lay(), 0, 2), [(0, "ab"), (5, "c")])

    def test_the_spare_goes_to_the_only_gap(self):
        pieces = [("ab", 4, "blank"), ("c", 2, "blank"), END]
        self.assertEqual(spread(pieces, good_lay(), 0, 2), [(0, "ab"), (8, "c")])

    def test_whole_parts_and_the_rest_to_the_first_gaps(self):
        pieces = [("a", 1, "blank"), ("b", 1, "blank"), ("c", 1, "blank"), ("d", 1, "blank"), END]
        expected = {
            7: [0, 2, 4, 6], 8: [0, 3, 5, 7], 9: [0, 3, 6, 8], 10: [0, 3, 6, 9], 11: [0, 4, 7, 10], 12: [0, 4, 8, 11],
            13: [0, 4, 8, 12], 20: [0, 7, 13, 19],
        }
        for width, lefts in expected.items():
            self.assertEqual(spread(pieces, good_lay(width=width), 0, 4), list(zip(lefts, "abcd")))

    def test_the_last_line_is_not_spread(self):
        pieces = [("x", 5, "blank"), ("ab", 4, "blank"), ("c", 2, "blank")]
        self.assertEqual(spread(pieces, good_lay(blank=2, width=30), 1, 3), [(0, "ab"), (6, "c")])
        self.assertEqual(spread(pieces, good_lay(blank=2, width=30), 0, 3), [(0, "x"), (7, "ab"), (13, "c")])

    def test_a_line_that_is_too_wide_is_not_spread(self):
        self.assertEqual(spread([("ab", 14, "blank"), END], good_lay(), 0, 1), [(0, "ab")])
        self.assertEqual(spread([("ab", 14, "part"), END], good_lay(), 0, 1), [(0, "ab-")])
        self.assertEqual(spread([END, ("ab", 14, "blank")], good_lay(), 1, 2), [(0, "ab")])

    def test_pieces_without_a_blank_between_are_one_text(self):
        pieces = [("moun", 4, "part"), ("tain-", 5, "soft"), ("top", 3, "blank"), ("is", 2, "blank"), END]
        self.assertEqual(spread(pieces, good_lay(width=20), 0, 4), [(0, "mountain-top"), (18, "is")])
        self.assertEqual(spread(pieces, good_lay(width=20), 0, 3), [(0, "mountain-top")])

    def test_a_dash_behind_the_last_piece(self):
        pieces = [("a", 1, "blank"), ("moun", 4, "part"), ("tain-", 5, "soft"), ("top", 3, "part"), ("s", 1, "blank"), END]
        self.assertEqual(spread(pieces, good_lay(width=10, dash=2), 0, 2), [(0, "a"), (4, "moun-")])
        self.assertEqual(spread(pieces, good_lay(width=12, dash=2), 0, 3), [(0, "a"), (3, "mountain-")])
        self.assertEqual(spread(pieces, good_lay(width=20, dash=2), 0, 4), [(0, "a"), (6, "mountain-top-")])
        self.assertEqual(spread(pieces, good_lay(width=20, dash=2), 1, 2), [(0, "moun-")])

    def test_from_the_middle(self):
        pieces = [("x", 9, "blank"), ("a", 2, "blank"), ("b", 3, "blank"), END]
        self.assertEqual(spread(pieces, good_lay(), 1, 3), [(0, "a"), (7, "b")])

    def test_by_chance(self):
        chance = random.Random(15)
        spread_out = 0
        for _ in range(400):
            pieces, lay = row_by_chance(chance, 7), lay_by_chance(chance)
            for begin in range(len(pieces)):
                for end in range(begin + 1, len(pieces) + 1):
                    if cost(pieces, lay, begin, end) is None:
                        continue
                    told = spread(pieces, lay, begin, end)
                    self.assertEqual(told, plain_spread(pieces, lay, begin, end))
                    self.assertEqual({spot.__class__ for spot in told}, {tuple})
                    spread_out += len(told) > 1 and end < len(pieces)
        self.assertGreater(spread_out, 150)

    def test_a_line_of_two_runs_ends_just_at_the_width(self):
        face, rules = (4, 2, (("-", 3), ("i", 1))), good_rules(width=47, ahead=1, behind=1)
        words = "in this line all the runs end just at the width but in the last one they do not so".split()
        pieces = pieces_of(face, ["i-n", "i-d", "h-e", "u-s"], rules, [(word, "") for word in words])
        lay = lay_of(face, rules)
        begin = 0
        for end in broken(pieces, lay)[:-1]:
            told = spread(pieces, lay, begin, end)
            last = sum([1 if sign == "i" else 3 if sign == "-" else 4 for sign in told[-1][1]])
            self.assertEqual(told[0][0], 0)
            if len(told) > 1:
                self.assertEqual(told[-1][0] + last, 47)
            begin = end

    def test_what_is_handed_in_stays_as_it_was(self):
        pieces, lay = [("a", 1, "blank"), ("b", 2, "part"), ("c", 2, "blank"), END], good_lay()
        before = copy.deepcopy((pieces, lay))
        told = spread(pieces, lay, 0, 2)
        told.clear()
        self.assertEqual((pieces, lay), before)
        self.assertEqual(spread(pieces, lay, 0, 2), [(0, "a"), (7, "b-")])


if __name__ == "__main__":
    unittest.main()
