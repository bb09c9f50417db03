"""Point 25: pages."""

import copy
import random
import unittest

from quirehand.placing import placed
from helper import good_rules

RULES = good_rules(height=10)


def line(text, many=0):
    return (1, [(0, 0, text)], many)


def note(text, many=1):
    """A note of so many rows."""
    return [(1, [(0, 0, text + str(at))], 0) for at in range(many)]


def plain_page(rules, strips, rows, notes, begin, end, ahead, late):
    """As point 25 says it, each strip and each note by itself."""
    tops = {begin: 0}
    for at in range(begin + 1, end):
        tops[at] = tops[at - 1] + strips[at - 1][1] + strips[at][0]
    body = [(tops[at] + top, left, text) for at in range(begin, end) for top, left, text in rows[at][1]]
    owners = [at for at, strip in enumerate(strips) for _ in range(strip[3])]
    before = [number for number, at in enumerate(owners) if at < begin]
    own = [number for number, at in enumerate(owners) if begin <= at < end]
    chosen = before[len(before) - ahead:] + own[:len(own) - late]
    if not chosen:
        return (body, None, [])
    lines = [row for number in chosen for row in notes[number]]
    below = tops[end - 1] + strips[end - 1][1]
    high = sum([row[0] for row in lines])
    rule = below if below + 1 + high >= rules["height"] else rules["height"] - 1 - high
    foot, top = [], rule + 1
    for height, spots, many in lines:
        foot += [(top + down, left, text) for down, left, text in spots]
        top += height
    if below + 1 + high <= rules["height"]:
        assert top == rules["height"]
    return (body, rule, foot)


class PlacedTest(unittest.TestCase):
    def test_no_leaves(self):
        self.assertEqual(placed(RULES, [], [], [], []), [])

    def test_the_body(self):
        strips = [(0, 1, 0, 0), (2, 1, 0, 0), (0, 1, 0, 0), (1, 1, 0, 0)]
        rows = [line("a"), line("b"), line("c"), line("d")]
        self.assertEqual(
            placed(RULES, strips, rows, [], [(4, 0)]),
            [([(0, 0, "a"), (3, 0, "b"), (4, 0, "c"), (6, 0, "d")], None, [])])

    def test_the_first_strip_of_each_page_stands_at_top_0(self):
        strips = [(0, 1, 0, 0), (2, 1, 0, 0), (3, 1, 0, 0), (1, 1, 0, 0)]
        rows = [line("a"), line("b"), line("c"), line("d")]
        self.assertEqual(
            placed(RULES, strips, rows, [], [(1, 0), (3, 0), (4, 0)]),
            [([(0, 0, "a")], None, []), ([(0, 0, "b"), (4, 0, "c")], None, []), ([(0, 0, "d")], None, [])])

    def test_rows_of_several_lines(self):
        strips = [(0, 3, 0, 0), (1, 2, 0, 0)]
        rows = [(3, [(0, 0, "a"), (1, 0, "b"), (2, 0, "c"), (0, 9, "d")], 0), (2, [(0, 0, "e"), (0, 9, "f"), (1, 9, "g")], 0)]
        self.assertEqual(placed(RULES, strips, rows, [], [(2, 0)]), [(
            [(0, 0, "a"), (1, 0, "b"), (2, 0, "c"), (0, 9, "d"), (4, 0, "e"), (4, 9, "f"), (5, 9, "g")], None, [])])

    def test_a_row_without_spots(self):
        strips = [(0, 1, 0, 0), (0, 1, 0, 0), (0, 1, 0, 0)]
        rows = [line("a"), (1, [], 0), line("b")]
        self.assertEqual(placed(RULES, strips, rows, [], [(3, 0)]), [([(0, 0, "a"), (2, 0, "b")], None, [])])

    def test_notes_at_the_foot(self):
        strips = [(0, 1, 0, 1), (0, 1, 0, 1)]
        rows = [line("a", 1), line("b", 1)]
        self.assertEqual(
            placed(RULES, strips, rows, [note("n", 2), note("m")], [(2, 0)]),
            [([(0, 0, "a"), (1, 0, "b")], 6, [(7, 0, "n0"), (8, 0, "n1"), (9, 0, "m0")])])

    def test_spots_side_by_side_in_a_note(self):
        notes = [[(1, [(0, 0, "1."), (0, 5, "x")], 0), (1, [(0, 0, "y"), (0, 7, "z")], 0)]]
        self.assertEqual(
            placed(RULES, [(0, 1, 0, 1)], [line("a", 1)], notes, [(1, 0)]),
            [([(0, 0, "a")], 7, [(8, 0, "1."), (8, 5, "x"), (9, 0, "y"), (9, 7, "z")])])

    def test_no_spare_row(self):
        self.assertEqual(
            placed(RULES, [(0, 6, 0, 1)], [(6, [(5, 0, "a")], 1)], [note("n", 3)], [(1, 0)]),
            [([(5, 0, "a")], 6, [(7, 0, "n0"), (8, 0, "n1"), (9, 0, "n2")])])

    def test_one_spare_row(self):
        self.assertEqual(
            placed(RULES, [(0, 5, 0, 1)], [(5, [(4, 0, "a")], 1)], [note("n", 3)], [(1, 0)]),
            [([(4, 0, "a")], 6, [(7, 0, "n0"), (8, 0, "n1"), (9, 0, "n2")])])

    def test_higher_than_the_height(self):
        self.assertEqual(
            placed(RULES, [(0, 7, 0, 1)], [(7, [(6, 0, "a")], 1)], [note("n", 3)], [(1, 0)]),
            [([(6, 0, "a")], 7, [(8, 0, "n0"), (9, 0, "n1"), (10, 0, "n2")])])
        self.assertEqual(
            placed(RULES, [(0, 20, 0, 1)], [(20, [(0, 0, "a")], 1)], [note("n")], [(1, 0)]),
            [([(0, 0, "a")], 20, [(21, 0, "n0")])])
        self.assertEqual(
            placed(RULES, [(0, 1, 0, 1)], [line("a", 1)], [note("n", 12)], [(1, 0)])[0][1:],
            (1, [(2 + at, 0, f"n{at}") for at in range(12)]))

    def test_the_body_is_as_high_as_its_strips_with_their_gaps(self):
        strips = [(0, 2, 0, 1), (4, 3, 0, 0)]
        rows = [(2, [(0, 0, "a")], 1), (3, [(0, 0, "b")], 0)]
        self.assertEqual(placed(good_rules(height=2), strips, rows, [note("n")], [(2, 0)]), [
            ([(0, 0, "a"), (6, 0, "b")], 9, [(10, 0, "n0")])])

    def test_notes_put_off_to_the_next_page(self):
        strips = [(0, 1, 0, 3), (0, 1, 0, 1), (0, 1, 0, 0)]
        rows = [line("a", 3), line("b", 1), line("c")]
        notes = [note("n"), note("m"), note("o"), note("p")]
        self.assertEqual(placed(RULES, strips, rows, notes, [(1, 2), (2, 1), (3, 0)]), [
            ([(0, 0, "a")], 8, [(9, 0, "n0")]),
            ([(0, 0, "b")], 7, [(8, 0, "m0"), (9, 0, "o0")]),
            ([(0, 0, "c")], 8, [(9, 0, "p0")])])

    def test_all_notes_put_off(self):
        strips = [(0, 1, 0, 1), (0, 1, 0, 0)]
        self.assertEqual(placed(RULES, strips, [line("a", 1), line("b")], [note("n")], [(1, 1), (2, 0)]), [
            ([(0, 0, "a")], None, []), ([(0, 0, "b")], 8, [(9, 0, "n0")])])

    def test_any_filling(self):
        chance = random.Random(25)
        for _ in range(500):
            strips, rows, notes = [], [], []
            for at in range(chance.randint(1, 9)):
                height, many = chance.choice([1, 1, 2, 3]), chance.choice([0, 0, 1, 2])
                cut = chance.choice([0, 7, "never", "must"])
                strips.append((chance.choice([0, 0, 1, 4]), height, cut, many))
                spots = [(chance.randint(0, height - 1), chance.randint(0, 9), f"s{at}{x}") for x in range(chance.randint(0, 3))]
                rows.append((height, spots, many))
                notes += [note(f"n{at}{x}", chance.randint(1, 3)) for x in range(many)]
            leaves, begin = [], 0
            while begin < len(strips):
                end = chance.randint(begin + 1, len(strips))
                marks = sum([strip[3] for strip in strips[begin:end]])
                leaves.append((end, chance.randint(0, marks) if end < len(strips) else 0))
                begin = end
            rules = good_rules(height=chance.randint(2, 20))
            expected = [
                plain_page(rules, strips, rows, notes, begin, end, ahead, late)
                for (begin, ahead), (end, late) in zip([(0, 0)] + leaves, leaves)]
            told = placed(rules, strips, rows, notes, leaves)
            self.assertEqual(told, expected)
            self.assertEqual(
                [text for page in told for top, left, text in page[2]], [row[1][0][2] for part in notes for row in part])

    def test_what_is_handed_in_stays_as_it_was(self):
        rules, strips, rows = good_rules(), [(0, 1, 0, 1), (0, 1, 0, 0)], [line("a", 1), line("b")]
        notes, leaves = [note("n")], [(2, 0)]
        before = copy.deepcopy((rules, strips, rows, notes, leaves))
        told = placed(rules, strips, rows, notes, leaves)
        again = copy.deepcopy(told)
        self.assertEqual([page.__class__ for page in told], [tuple])
        told[0][0].clear()
        told[0][2].append("more")
        told.clear()
        self.assertEqual((rules, strips, rows, notes, leaves), before)
        self.assertEqual(placed(rules, strips, rows, notes, leaves), again)


if __name__ == "__main__":
    unittest.main()
