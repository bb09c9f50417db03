"""Point 20: strips."""

import copy
import random
import unittest

from quirehand.galley import strips_of
from helper import good_rules

RULES = good_rules(gap=2, lone=7)


def row(height=1, many=0):
    return (height, [(0, 0, "a")], many)


def strips(*blocks, rules=RULES):
    """Each block is a pair of its kind and of how many rows it has."""
    return strips_of(rules, [kind for kind, many in blocks], [[row()] * many for kind, many in blocks])


def cuts(*blocks, rules=RULES):
    return [strip[2] for strip in strips(*blocks, rules=rules)]


def plain_strips(rules, kinds, rows):
    """Each strip by itself, as point 20 says it."""
    order = [(at, place) for at, own in enumerate(rows) for place in range(len(own))]
    told = []
    for index, (at, place) in enumerate(order):
        height, spots, many = rows[at][place]
        gap = rules["gap"] if place == 0 and index > 0 else 0
        behind = order[index + 1:]
        if behind and "leaf" in kinds[at + 1:behind[0][0]]:
            cut = "must"
        elif not behind:
            cut = 0
        elif kinds[at] == "head":
            cut = "never"
        elif kinds[at] == "text":
            k, m = place + 1, len(rows[at])
            cut = (rules["lone"] if k == 1 and k <= m - 1 else 0) + (rules["lone"] if k == m - 1 else 0)
        else:
            cut = 0
        told.append((gap, height, cut, many))
    return told


class GalleyTest(unittest.TestCase):
    def test_nothing(self):
        self.assertEqual(strips_of(RULES, [], []), [])
        self.assertEqual(strips(("leaf", 0)), [])
        self.assertEqual(strips(("leaf", 0), ("leaf", 0)), [])

    def test_heights_and_marks(self):
        told = strips_of(RULES, ["text", "table"], [[row(1, 2), row(1, 0), row(1, 1)], [row(4), row(2)]])
        self.assertEqual([(strip[1], strip[3]) for strip in told], [(1, 2), (1, 0), (1, 1), (4, 0), (2, 0)])

    def test_gaps(self):
        told = strips(("head", 2), ("text", 3), ("table", 2), ("text", 1))
        self.assertEqual([strip[0] for strip in told], [0, 0, 2, 0, 0, 2, 0, 2])

    def test_gaps_beside_leaves(self):
        told = strips(("leaf", 0), ("text", 2), ("leaf", 0), ("text", 2))
        self.assertEqual([strip[0] for strip in told], [0, 0, 2, 0])

    def test_a_gap_of_nought(self):
        self.assertEqual([strip[0] for strip in strips(("text", 2), ("text", 2), rules=good_rules(gap=0))], [0, 0, 0, 0])

    def test_heads(self):
        self.assertEqual(cuts(("head", 1), ("text", 1)), ["never", 0])
        self.assertEqual(cuts(("head", 3), ("text", 1)), ["never", "never", "never", 0])
        self.assertEqual(cuts(("head", 2), ("head", 1), ("table", 1)), ["never", "never", "never", 0])

    def test_the_last_strip_of_all(self):
        self.assertEqual(cuts(("head", 1)), [0])
        self.assertEqual(cuts(("head", 3)), ["never", "never", 0])
        self.assertEqual(cuts(("text", 1)), [0])
        self.assertEqual(cuts(("table", 1)), [0])
        self.assertEqual(cuts(("text", 2), ("head", 2)), [14, 0, "never", 0])

    def test_texts(self):
        rest = ("table", 1)
        self.assertEqual(cuts(("text", 1), rest), [0, 0])
        self.assertEqual(cuts(("text", 2), rest), [14, 0, 0])
        self.assertEqual(cuts(("text", 3), rest), [7, 7, 0, 0])
        self.assertEqual(cuts(("text", 4), rest), [7, 0, 7, 0, 0])
        self.assertEqual(cuts(("text", 6), rest), [7, 0, 0, 0, 7, 0, 0])

    def test_texts_at_the_end(self):
        self.assertEqual(cuts(("text", 2)), [14, 0])
        self.assertEqual(cuts(("text", 3)), [7, 7, 0])
        self.assertEqual(cuts(("text", 5)), [7, 0, 0, 7, 0])

    def test_tables(self):
        self.assertEqual(cuts(("table", 4), ("text", 1)), [0, 0, 0, 0, 0])

    def test_lone_beyond_the_rules_bound(self):
        for lone in [0, 1, 100000, 100001, 10 ** 30]:
            self.assertEqual(cuts(("text", 2), ("text", 3), rules=good_rules(lone=lone)), [2 * lone, 0, lone, lone, 0])

    def test_must_ahead_of_a_leaf(self):
        for kind in ["head", "text", "table"]:
            self.assertEqual(cuts((kind, 1), ("leaf", 0), ("text", 1)), ["must", 0])
        self.assertEqual(cuts(("head", 2), ("leaf", 0), ("head", 1)), ["never", "must", 0])
        self.assertEqual(cuts(("text", 3), ("leaf", 0), ("text", 2)), [7, 7, "must", 14, 0])
        self.assertEqual(cuts(("text", 2), ("leaf", 0), ("text", 2), ("leaf", 0), ("table", 1)), [14, "must", 14, "must", 0])

    def test_leaves_side_by_side(self):
        self.assertEqual(cuts(("text", 1), ("leaf", 0), ("leaf", 0), ("leaf", 0), ("text", 1)), ["must", 0])

    def test_leaves_at_the_beginning(self):
        self.assertEqual(cuts(("leaf", 0), ("text", 2), ("text", 1)), [14, 0, 0])
        self.assertEqual(cuts(("leaf", 0), ("leaf", 0), ("head", 1), ("text", 1)), ["never", 0])

    def test_leaves_at_the_end(self):
        self.assertEqual(cuts(("text", 1), ("leaf", 0)), [0])
        self.assertEqual(cuts(("head", 2), ("leaf", 0), ("leaf", 0)), ["never", 0])
        self.assertEqual(cuts(("text", 1), ("leaf", 0), ("text", 1), ("leaf", 0)), ["must", 0])

    def test_by_chance(self):
        chance = random.Random(20)
        for _ in range(1000):
            kinds = [chance.choice(["head", "text", "text", "table", "leaf"]) for _ in range(chance.randint(0, 7))]
            rows = [
                [] if kind == "leaf" else [row(chance.randint(1, 3), chance.randint(0, 2)) for _ in range(chance.randint(1, 5))]
                for kind in kinds]
            rules = good_rules(gap=chance.randint(0, 5), lone=chance.choice([0, 5, 200]))
            self.assertEqual(strips_of(rules, kinds, rows), plain_strips(rules, kinds, rows))

    def test_what_is_handed_in_stays_as_it_was(self):
        kinds, rows, rules = ["text", "leaf", "head"], [[row(1, 1)] * 2, [], [row()]], good_rules()
        before = copy.deepcopy((kinds, rows, rules))
        told = strips_of(rules, kinds, rows)
        again = list(told)
        self.assertEqual({strip.__class__ for strip in told}, {tuple})
        told.clear()
        self.assertEqual((kinds, rows, rules), before)
        self.assertEqual(strips_of(rules, kinds, rows), again)


if __name__ == "__main__":
    unittest.main()
