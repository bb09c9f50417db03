"""Points 21, 22 and 23: leaves."""

import copy
import random
import unittest

from quirehand.leaves import height_of, leaf_cost, may_end
from helper import good_rules, plain_leaf_cost, plain_may_end, strips_by_chance

RULES = good_rules(height=5, over=1000, late=300)


class MayEndTest(unittest.TestCase):
    strips = [(0, 1, 0, 0), (0, 1, "never", 0), (1, 1, "must", 0), (0, 1, 7, 0), (0, 1, 0, 0)]

    def test_behind_a_number(self):
        self.assertIs(may_end(self.strips, 0, 1), True)
        self.assertIs(may_end(self.strips, 3, 4), True)
        self.assertIs(may_end(self.strips, 3, 5), True)

    def test_not_behind_never(self):
        self.assertIs(may_end(self.strips, 0, 2), False)
        self.assertIs(may_end(self.strips, 1, 2), False)

    def test_behind_a_must_but_not_beyond_it(self):
        self.assertIs(may_end(self.strips, 0, 3), True)
        self.assertIs(may_end(self.strips, 2, 3), True)
        self.assertIs(may_end(self.strips, 0, 4), False)
        self.assertIs(may_end(self.strips, 2, 4), False)
        self.assertIs(may_end(self.strips, 0, 5), False)

    def test_a_never_within(self):
        self.assertIs(may_end(self.strips, 1, 3), True)


class HeightTest(unittest.TestCase):
    strips = [(0, 1, 0, 2), (3, 2, 0, 0), (1, 1, 0, 3), (5, 4, 0, 1)]
    heights = [1, 2, 4, 8, 16, 32]

    def test_the_gaps_of_all_but_the_first(self):
        self.assertEqual(height_of(self.strips, self.heights, 0, 1, 0, 2), 1)
        self.assertEqual(height_of(self.strips, self.heights, 0, 2, 0, 2), 1 + 3 + 2)
        self.assertEqual(height_of(self.strips, self.heights, 1, 2, 0, 0), 2)
        self.assertEqual(height_of(self.strips, self.heights, 1, 4, 0, 4), 2 + 1 + 1 + 5 + 4)

    def test_its_own_notes(self):
        self.assertEqual(height_of(self.strips, self.heights, 0, 1, 0, 0), 1 + 1 + 3)
        self.assertEqual(height_of(self.strips, self.heights, 2, 3, 0, 0), 1 + 1 + 4 + 8 + 16)
        self.assertEqual(height_of(self.strips, self.heights, 3, 4, 0, 0), 4 + 1 + 32)

    def test_the_last_late_are_put_off(self):
        self.assertEqual(height_of(self.strips, self.heights, 0, 1, 0, 1), 1 + 1 + 1)
        self.assertEqual(height_of(self.strips, self.heights, 2, 3, 0, 1), 1 + 1 + 4 + 8)
        self.assertEqual(height_of(self.strips, self.heights, 2, 3, 0, 2), 1 + 1 + 4)
        self.assertEqual(height_of(self.strips, self.heights, 2, 3, 0, 3), 1)

    def test_notes_put_off_to_it(self):
        self.assertEqual(height_of(self.strips, self.heights, 1, 2, 1, 0), 2 + 1 + 2)
        self.assertEqual(height_of(self.strips, self.heights, 1, 2, 2, 0), 2 + 1 + 1 + 2)
        self.assertEqual(height_of(self.strips, self.heights, 2, 3, 1, 2), 1 + 1 + 2 + 4)
        self.assertEqual(height_of(self.strips, self.heights, 3, 4, 3, 1), 4 + 1 + 4 + 8 + 16)
        self.assertEqual(height_of(self.strips, self.heights, 3, 4, 5, 0), 4 + 1 + 63)

    def test_more_put_off_to_it_than_there_are(self):
        self.assertEqual(height_of(self.strips, self.heights, 1, 2, 3, 0), 2 + 1 + 1 + 2)
        self.assertEqual(height_of(self.strips, self.heights, 0, 1, 2, 1), 1 + 1 + 1)

    def test_no_notes_at_the_foot(self):
        self.assertEqual(height_of([(0, 1, 0, 0)], [], 0, 1, 0, 0), 1)
        self.assertEqual(height_of(self.strips, self.heights, 1, 3, 0, 3), 2 + 1 + 1)


class LeafCostTest(unittest.TestCase):
    def cost(self, strips, begin, end, ahead=0, late=0, heights=None, rules=RULES):
        heights = [1] * sum([strip[3] for strip in strips]) if heights is None else heights
        return leaf_cost(strips, heights, rules, begin, end, ahead, late)

    def test_the_spare_rows_times_themselves(self):
        strips = [(0, 1, 0, 0)] * 9
        self.assertEqual([self.cost(strips, 0, end) for end in range(1, 7)], [16, 9, 4, 1, 0, None])
        self.assertEqual(self.cost(strips, 3, 6), 4)

    def test_the_last_leaf_costs_nothing(self):
        self.assertEqual(self.cost([(0, 1, 0, 0)] * 4, 0, 4), 0)
        self.assertEqual(self.cost([(0, 1, 0, 0)] * 4, 3, 4), 0)
        self.assertEqual(self.cost([(0, 1, 50, 0)] * 4, 3, 4), 0)

    def test_behind_a_must_it_costs_nothing(self):
        strips = [(0, 1, 7, 0), (0, 1, "must", 0), (0, 1, 0, 0)]
        self.assertEqual(self.cost(strips, 0, 2), 0)
        self.assertEqual(self.cost(strips, 1, 2), 0)
        self.assertEqual(self.cost(strips, 0, 1), 16 + 7)

    def test_a_must_within(self):
        strips = [(0, 1, "must", 0), (0, 1, 0, 0), (0, 1, 0, 0)]
        self.assertIsNone(self.cost(strips, 0, 2))
        self.assertIsNone(self.cost(strips, 0, 3))

    def test_a_never_at_the_end(self):
        strips = [(0, 1, 0, 0), (0, 1, "never", 0), (0, 1, 3, 0), (0, 1, 0, 0)]
        self.assertIsNone(self.cost(strips, 0, 2))
        self.assertIsNone(self.cost(strips, 1, 2))
        self.assertEqual(self.cost(strips, 1, 3), 9 + 3)

    def test_the_last_cut_where_it_is_a_number(self):
        strips = [(0, 1, 40, 0), (0, 1, 70, 0), (0, 1, 0, 0)]
        self.assertEqual(self.cost(strips, 0, 1), 16 + 40)
        self.assertEqual(self.cost(strips, 0, 2), 9 + 70)

    def test_late_for_each_note_put_off(self):
        strips = [(0, 1, 0, 3), (0, 1, 0, 0)]
        self.assertEqual([self.cost(strips, 0, 1, 0, late) for late in range(5)], [0, 300 + 1, 600 + 4, 900 + 16, None])

    def test_late_behind_a_must(self):
        strips = [(0, 1, "must", 2), (0, 1, 0, 0)]
        self.assertEqual([self.cost(strips, 0, 1, 0, late) for late in range(4)], [0, 300, 600, None])

    def test_late_beyond_its_own_marks(self):
        strips = [(0, 1, 0, 2), (0, 1, 0, 1), (0, 1, 0, 0)]
        self.assertIsNone(self.cost(strips, 1, 2, 2, 2))
        self.assertIsNone(self.cost(strips, 1, 2, 0, 2))
        self.assertIsNone(self.cost(strips, 0, 1, 0, 1000))
        self.assertEqual(self.cost(strips, 1, 2, 2, 1), 300 + 1)

    def test_late_on_the_last_leaf(self):
        strips = [(0, 1, 0, 2), (0, 1, 0, 1)]
        self.assertIsNone(self.cost(strips, 0, 2, 0, 1))
        self.assertIsNone(self.cost(strips, 1, 2, 0, 1))
        self.assertEqual(self.cost(strips, 1, 2, 2, 0), 0)

    def test_just_as_high_and_one_row_higher(self):
        strips = [(0, 1, 0, 0), (3, 1, 0, 0), (0, 1, 0, 0), (0, 1, 0, 0)]
        self.assertEqual(self.cost(strips, 0, 2), 0)
        self.assertIsNone(self.cost(strips, 0, 3))
        self.assertIsNone(self.cost(strips, 0, 4))
        self.assertEqual(self.cost(strips, 1, 4), 0)

    def test_too_high_with_no_lesser_end(self):
        strips = [(0, 7, 20, 0), (0, 1, 0, 0)]
        self.assertEqual(self.cost(strips, 0, 1), 2000 + 20)
        strips = [(0, 3, "never", 0), (1, 3, "never", 0), (0, 1, 20, 0), (0, 1, 0, 0)]
        self.assertEqual(self.cost(strips, 0, 3), 3000 + 20)
        self.assertIsNone(self.cost(strips, 0, 4))
        self.assertEqual(self.cost(strips, 0, 3, rules=good_rules(height=8, over=1000)), 20)

    def test_too_high_and_the_last_one(self):
        self.assertEqual(self.cost([(0, 7, 0, 0)], 0, 1), 2000)
        self.assertEqual(self.cost([(0, 3, "never", 0), (0, 3, 0, 0)], 0, 2), 1000)
        self.assertIsNone(self.cost([(0, 3, 0, 0), (0, 3, 0, 0)], 0, 2))
        # Its own notes make it higher still, and can't be put off.
        self.assertEqual(self.cost([(0, 3, 0, 2)], 0, 1), 1000)
        self.assertEqual(self.cost([(0, 3, 0, 2)], 0, 1, heights=[4, 4]), 7000)

    def test_too_high_behind_a_must(self):
        strips = [(0, 7, "must", 1), (0, 1, 0, 0)]
        self.assertEqual(self.cost(strips, 0, 1, 0, 1), 2000 + 300)
        self.assertIsNone(self.cost(strips, 0, 1, 0, 0))

    def test_too_high_with_late_all_and_not_all_its_own_marks(self):
        strips = [(0, 5, 20, 2), (0, 1, 0, 0)]
        self.assertEqual(self.cost(strips, 0, 1, 0, 2), 600 + 20)
        self.assertIsNone(self.cost(strips, 0, 1, 0, 1))
        self.assertIsNone(self.cost(strips, 0, 1, 0, 0))
        strips = [(0, 6, 20, 2), (0, 1, 0, 0)]
        self.assertEqual(self.cost(strips, 0, 1, 0, 2), 1000 + 600 + 20)
        self.assertIsNone(self.cost(strips, 0, 1, 0, 1))

    def test_too_high_by_notes_put_off_to_it(self):
        strips = [(0, 1, 0, 3), (0, 1, 20, 1), (0, 1, 0, 0), (0, 1, 0, 0)]
        heights = [3, 3, 3, 1]
        self.assertEqual(self.cost(strips, 1, 2, 2, 1, heights), 3000 + 300 + 20)
        self.assertIsNone(self.cost(strips, 1, 2, 2, 0, heights))
        self.assertIsNone(self.cost(strips, 1, 3, 2, 1, heights))
        self.assertEqual(self.cost(strips, 1, 2, 1, 1, heights), 300 + 20)

    def test_no_leaf_has_no_cost(self):
        strips = [(0, 1, 0, 0), (0, 1, 0, 0)]
        for begin, end in [(1, 1), (0, 0), (1, 0), (2, 2), (0, 3), (2, 3), (-1, 1), (-1, 0)]:
            self.assertIsNone(self.cost(strips, begin, end))

    def test_by_chance(self):
        chance = random.Random(22)
        told, none = 0, 0
        for _ in range(500):
            strips, heights = strips_by_chance(chance, 6, 5)
            rules = good_rules(height=chance.randint(2, 9), over=chance.choice([1, 50]), late=chance.choice([0, 3, 40]))
            for begin in range(len(strips)):
                for end in range(begin + 1, len(strips) + 1):
                    self.assertIs(may_end(strips, begin, end), plain_may_end(strips, begin, end))
                    for ahead in range(sum([strip[3] for strip in strips[:begin]]) + 1):
                        for late in range(sum([strip[3] for strip in strips[begin:end]]) + 2):
                            expected = plain_leaf_cost(strips, heights, rules, begin, end, ahead, late)
                            self.assertEqual(leaf_cost(strips, heights, rules, begin, end, ahead, late), expected)
                            told += expected is not None
                            none += expected is None
        self.assertGreater(min(told, none), 1000)

    def test_what_is_handed_in_stays_as_it_was(self):
        strips, heights, rules = [(0, 1, 0, 2), (1, 2, "must", 1), (1, 1, 0, 0)], [1, 2, 3], good_rules()
        before = copy.deepcopy((strips, heights, rules))
        may_end(strips, 0, 2)
        height_of(strips, heights, 0, 2, 0, 1)
        leaf_cost(strips, heights, rules, 0, 2, 0, 1)
        self.assertEqual((strips, heights, rules), before)


if __name__ == "__main__":
    unittest.main()
