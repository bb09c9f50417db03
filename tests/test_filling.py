"""Point 24: prices of leaves and the best filling."""

import copy
import random
import unittest

from quirehand.filling import filled, leaf_prices
from quirehand.leaves import leaf_cost
from helper import good_rules, plain_leaf_cost, strips_by_chance


def all_fillings(strips, heights, rules, begin, ahead):
    """Each filling from a place on, with what it costs."""
    if begin == len(strips):
        yield 0, []
    for end in range(begin + 1, len(strips) + 1):
        for late in range(sum([strip[3] for strip in strips[begin:end]]) + 1):
            price = plain_leaf_cost(strips, heights, rules, begin, end, ahead, late)
            if price is not None:
                for rest, leaves in all_fillings(strips, heights, rules, end, late):
                    yield price + rest, [(end, late)] + leaves


def plain_prices(strips, heights, rules):
    told = []
    for place in range(len(strips)):
        marks = sum([strip[3] for strip in strips[:place]])
        told.append([
            min([price for price, leaves in all_fillings(strips, heights, rules, place, ahead)]) for ahead in range(marks + 1)])
    return told + [[0]]


def rules_by_chance(chance):
    return good_rules(height=chance.randint(2, 9), over=chance.choice([1, 50]), late=chance.choice([0, 3, 40]))


def ties_by_chance(chance):
    """Strips low enough that it is often one and the same where a note stands, or where a leaf ends."""
    strips = []
    for at in range(chance.randint(2, 5)):
        left = 5 - sum([strip[3] for strip in strips])
        strips.append((0, 1, chance.choice(["must", "must", 0, 1, 3]), min(left, chance.randint(0, 2))))
    strips[-1] = (0, 1, 0, strips[-1][3])
    return strips, [1] * sum([strip[3] for strip in strips])


class FillingTest(unittest.TestCase):
    def test_no_strips(self):
        self.assertEqual(filled([], [], good_rules()), [])
        self.assertEqual(leaf_prices([], [], good_rules()), [[0]])

    def test_one_strip(self):
        self.assertEqual(filled([(0, 1, 0, 0)], [], good_rules()), [(1, 0)])
        self.assertEqual(leaf_prices([(0, 1, 0, 0)], [], good_rules()), [[0], [0]])
        self.assertEqual(leaf_prices([(0, 3, 0, 0)], [], good_rules(height=2, over=9)), [[9], [0]])

    def test_the_shape(self):
        strips = [(0, 1, 0, 2), (0, 1, 0, 0), (0, 1, 0, 1), (0, 1, 0, 0)]
        told = leaf_prices(strips, [1, 1, 1], good_rules())
        self.assertEqual([len(part) for part in told], [1, 3, 3, 4, 1])
        self.assertEqual(told[-1], [0])
        self.assertEqual({part.__class__ for part in told}, {list})

    def test_the_last_place_has_one_price_alone(self):
        self.assertEqual(leaf_prices([(0, 1, 0, 3)], [1, 1, 1], good_rules())[-1], [0])

    def test_all_on_one_leaf(self):
        self.assertEqual(filled([(0, 1, 0, 0)] * 5, [], good_rules(height=5)), [(5, 0)])

    def test_full_leaves_first(self):
        self.assertEqual(filled([(0, 1, 0, 0)] * 7, [], good_rules(height=3)), [(3, 0), (6, 0), (7, 0)])

    def test_a_cut_may_cost_more_than_spare_rows(self):
        strips = [(0, 1, 0, 0), (0, 1, 0, 0), (0, 1, 7, 0), (0, 1, 0, 0)]
        self.assertEqual(filled(strips, [], good_rules(height=3)), [(2, 0), (4, 0)])
        strips = [(0, 1, 0, 0), (0, 1, 0, 0), (0, 1, 1, 0), (0, 1, 0, 0)]
        self.assertEqual(filled(strips, [], good_rules(height=3)), [(3, 0), (4, 0)])

    def test_a_must(self):
        strips = [(0, 1, "must", 0), (1, 1, 0, 0), (0, 1, "must", 0), (1, 1, 0, 0)]
        self.assertEqual(filled(strips, [], good_rules(height=9)), [(1, 0), (3, 0), (4, 0)])
        self.assertEqual(leaf_prices(strips, [], good_rules(height=9))[0], [0])

    def test_a_note_is_put_off(self):
        strips = [(0, 1, 0, 0)] * 3 + [(0, 1, 0, 1)] + [(0, 1, 0, 0)] * 2
        self.assertEqual(filled(strips, [1], good_rules(height=4, late=0)), [(4, 1), (6, 0)])
        self.assertEqual(filled(strips, [1], good_rules(height=4, late=1)), [(4, 1), (6, 0)])
        self.assertEqual(filled(strips, [1], good_rules(height=4, late=2)), [(3, 0), (5, 0), (6, 0)])
        self.assertEqual(leaf_prices(strips, [1], good_rules(height=4, late=2))[0], [1])

    def test_of_several_best_fillings(self):
        # Behind a must each leaf costs nothing, and late costs nothing either.
        strips = [(0, 1, "must", 3), (1, 1, 0, 0), (0, 1, 0, 0)]
        self.assertEqual(filled(strips, [1, 1, 1], good_rules(height=9, late=0)), [(1, 0), (3, 0)])
        # A spare row and a cut of 1, or no spare row and a cut of 2.
        strips = [(0, 1, 1, 0), (0, 1, 2, 0), (0, 1, 0, 0)]
        self.assertEqual(filled(strips, [], good_rules(height=2)), [(2, 0), (3, 0)])
        strips = [(0, 1, 1, 0), (0, 1, 3, 0), (0, 1, 0, 0)]
        self.assertEqual(filled(strips, [], good_rules(height=2)), [(1, 0), (3, 0)])

    def test_against_all_fillings(self):
        chance = random.Random(24)
        for _ in range(300):
            strips, heights = strips_by_chance(chance, 6, 5)
            rules = rules_by_chance(chance)
            self.assertEqual(leaf_prices(strips, heights, rules), plain_prices(strips, heights, rules))
            self.assertEqual(filled(strips, heights, rules), max_filling(strips, heights, rules))

    def test_against_all_fillings_where_many_cost_the_same(self):
        chance = random.Random(241)
        several, by_late = 0, 0
        for _ in range(400):
            strips, heights = ties_by_chance(chance)
            rules = good_rules(height=chance.randint(2, 12), over=1, late=chance.choice([0, 0, 1]))
            fillings = list(all_fillings(strips, heights, rules, 0, 0))
            least = min([price for price, leaves in fillings])
            best = [leaves for price, leaves in fillings if price == least]
            several += len(best) > 1
            by_late += len({tuple([end for end, late in leaves]) for leaves in best}) < len(best)
            self.assertEqual(filled(strips, heights, rules), max_filling(strips, heights, rules))
        self.assertGreater(several, 50)
        self.assertGreater(by_late, 30)

    def test_some_hundred_strips(self):
        chance = random.Random(242)
        for most in [0, 60]:
            strips, marks = [], 0
            for at in range(700):
                many = min(most - marks, chance.choice([0] * 9 + [1, 2]))
                marks += many
                strips.append((0 if at % 9 else 1, 1, chance.choice([0, 0, 0, 200, 400, "never", "must"]), many))
            strips[-1] = (0, 1, 0, 0)
            heights = [chance.randint(1, 4) for _ in range(marks)]
            rules = good_rules(height=20)
            leaves = filled(strips, heights, rules)
            told = leaf_prices(strips, heights, rules)
            self.assertEqual(leaves[-1], (700, 0))
            begin, ahead, price = 0, 0, 0
            for end, late in leaves:
                price += leaf_cost(strips, heights, rules, begin, end, ahead, late)
                begin, ahead = end, late
            self.assertEqual(told[0], [price])

    def test_a_long_run_without_an_end(self):
        strips = [(0, 1, "never", 0)] * 600 + [(0, 1, 0, 0)]
        self.assertEqual(filled(strips, [], good_rules(height=9)), [(601, 0)])

    def test_what_is_handed_in_stays_as_it_was(self):
        strips, heights, rules = [(0, 1, 0, 2), (1, 2, "must", 1), (1, 1, 0, 0)], [1, 2, 3], good_rules(height=4)
        before = copy.deepcopy((strips, heights, rules))
        leaves, told = filled(strips, heights, rules), leaf_prices(strips, heights, rules)
        again = copy.deepcopy((leaves, told))
        self.assertEqual((strips, heights, rules), before)
        self.assertEqual({leaf.__class__ for leaf in leaves}, {tuple})
        leaves.clear()
        for part in told:
            part.append(99)
        self.assertEqual((filled(strips, heights, rules), leaf_prices(strips, heights, rules)), again)


def max_filling(strips, heights, rules):
    fillings = list(all_fillings(strips, heights, rules, 0, 0))
    least = min([price for price, leaves in fillings])
    best = [leaves for price, leaves in fillings if price == least]
    return max(best, key=lambda leaves: [(end, -late) for end, late in leaves])


if __name__ == "__main__":
    unittest.main()
