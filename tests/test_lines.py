"""Points 12 and 13: lines and breaks."""

import copy
import itertools
import random
import unittest

from quirehand.errors import BadBreaks
from quirehand.lines import cost, natural, need_breaks, total
from helper import good_lay, lay_by_chance, refused, row_by_chance, row_of, things


def plain_natural(pieces, lay, begin, end):
    width = 0
    for at in range(begin, end):
        text, wide, join = pieces[at]
        width += wide
        if at < end - 1 and join == "blank":
            width += lay["blank"]
        if at == end - 1 and join == "part":
            width += lay["dash"]
    return width


def plain_cost(pieces, lay, begin, end):
    width = plain_natural(pieces, lay, begin, end)
    if width > lay["width"]:
        if end != begin + 1:
            return None
        price = lay["over"] * (width - lay["width"])
    elif end == len(pieces):
        price = 0
    else:
        price = (lay["width"] - width) ** 2
    return price + (lay["part"] if pieces[end - 1][2] == "part" else 0)


class LineTest(unittest.TestCase):
    def test_blanks_between(self):
        pieces = row_of(2, 3, 4, 1)
        self.assertEqual(natural(pieces, good_lay(blank=2), 0, 3), 2 + 2 + 3 + 2 + 4)
        self.assertEqual(natural(pieces, good_lay(blank=2), 1, 2), 3)

    def test_part_and_soft_have_none(self):
        pieces = row_of((2, "part"), (3, "soft"), 4, 1)
        self.assertEqual(natural(pieces, good_lay(blank=2), 0, 3), 9)
        self.assertEqual(natural(pieces, good_lay(blank=2), 0, 4), 9 + 2 + 1)

    def test_a_dash_at_the_end(self):
        pieces = row_of(5, (2, "part"), (3, "soft"), 1)
        self.assertEqual(natural(pieces, good_lay(dash=4), 1, 2), 6)
        self.assertEqual(natural(pieces, good_lay(dash=4), 0, 2), 5 + 1 + 2 + 4)
        self.assertEqual(natural(pieces, good_lay(dash=4), 1, 3), 5)

    def test_a_longer_line_may_be_narrower(self):
        pieces = row_of((8, "part"), (1, "soft"), 5)
        lay = good_lay(width=9, dash=3)
        self.assertEqual(natural(pieces, lay, 0, 1), 11)
        self.assertEqual(natural(pieces, lay, 0, 2), 9)
        pieces = row_of(3, (4, "part"), (1, "soft"), 5)
        self.assertIsNone(cost(pieces, lay, 0, 2))
        self.assertEqual(cost(pieces, lay, 0, 3), 0)

    def test_the_spare_times_itself(self):
        pieces = row_of(4, 2, 9)
        self.assertEqual(cost(pieces, good_lay(), 0, 1), 36)
        self.assertEqual(cost(pieces, good_lay(), 0, 2), 9)

    def test_the_last_line_costs_nothing(self):
        pieces = row_of(4, 2, 3)
        for begin in range(3):
            self.assertEqual(cost(pieces, good_lay(width=11), begin, 3), 0)

    def test_just_at_the_width_and_one_beyond(self):
        pieces = row_of(4, 5, 9)
        self.assertEqual(cost(pieces, good_lay(width=10), 0, 2), 0)
        self.assertIsNone(cost(pieces, good_lay(width=9), 0, 2))
        self.assertEqual(cost(pieces, good_lay(width=11), 0, 2), 1)

    def test_one_piece_that_is_too_wide(self):
        pieces = row_of(13, (12, "part"), 11)
        lay = good_lay(over=100, part=7)
        self.assertEqual(cost(pieces, lay, 0, 1), 300)
        self.assertEqual(cost(pieces, lay, 1, 2), 100 * 3 + 7)
        self.assertEqual(cost(pieces, lay, 2, 3), 100)
        self.assertIsNone(cost(pieces, lay, 0, 2))
        self.assertIsNone(cost(pieces, lay, 1, 3))

    def test_one_piece_that_is_too_wide_by_its_dash_alone(self):
        pieces = row_of((10, "part"), 1)
        self.assertEqual(cost(pieces, good_lay(dash=2), 0, 1), 200 + 7)
        self.assertEqual(cost(pieces, good_lay(width=12, dash=2), 0, 1), 7)

    def test_part_besides(self):
        pieces = row_of((4, "part"), (4, "soft"), 4)
        self.assertEqual(cost(pieces, good_lay(part=7), 0, 1), 25 + 7)
        self.assertEqual(cost(pieces, good_lay(part=7), 0, 2), 4)

    def test_every_begin_and_end_of_small_rows(self):
        for joins in itertools.product(["blank", "part", "soft"], repeat=3):
            for widths in itertools.product([1, 4, 9], repeat=4):
                pieces = row_of(*zip(widths, joins + ("blank",)))
                for lay in [good_lay(width=9, dash=3, blank=2), good_lay(width=14)]:
                    for begin in range(4):
                        for end in range(begin + 1, 5):
                            self.assertEqual(natural(pieces, lay, begin, end), plain_natural(pieces, lay, begin, end))
                            self.assertEqual(cost(pieces, lay, begin, end), plain_cost(pieces, lay, begin, end))

    def test_what_is_handed_in_stays_as_it_was(self):
        pieces, lay = row_of((4, "part"), 4, 13), good_lay()
        before = copy.deepcopy((pieces, lay))
        for begin, end in [(0, 1), (0, 2), (0, 3), (2, 3)]:
            natural(pieces, lay, begin, end)
            cost(pieces, lay, begin, end)
        need_breaks(pieces, lay, [2, 3])
        total(pieces, lay, [2, 3])
        self.assertEqual((pieces, lay), before)

    def test_no_line_has_no_cost(self):
        pieces = row_of(1, 2, 3)
        for begin, end in [(1, 1), (2, 1), (0, 0), (0, 4), (3, 4), (-1, 1)]:
            self.assertIsNone(cost(pieces, good_lay(), begin, end))


class BreaksTest(unittest.TestCase):
    pieces = row_of(4, 5, (3, "part"), 4, 12, 2)
    lay = good_lay()

    def refuse(self, breaks, name):
        with self.subTest(refused=name):
            refused(self, BadBreaks, need_breaks, self.pieces, self.lay, breaks)
            refused(self, BadBreaks, total, self.pieces, self.lay, breaks)

    def test_good_breaks(self):
        for breaks in [[1, 2, 3, 4, 5, 6], [2, 4, 5, 6], [2, 3, 4, 5, 6], [1, 3, 4, 5, 6]]:
            with self.subTest(breaks=breaks):
                self.assertIs(need_breaks(self.pieces, self.lay, breaks), True)

    def test_ends_left_out(self):
        self.refuse([2, 4, 5], "the last")
        self.refuse([4, 5, 6], "the first")
        self.refuse([2, 4, 6], "one whose line has to stand alone")
        self.refuse([], "all")

    def test_ends_put_in(self):
        for put in [0, -1, 7, 100, 6, 4, 2, 1, 5]:
            for at in range(5):
                breaks = [2, 4, 5, 6]
                breaks.insert(at, put)
                if breaks != sorted(set(breaks)) or put not in range(1, 7):
                    self.refuse(breaks, f"{put} at {at}")
        self.assertIs(need_breaks(self.pieces, self.lay, [1, 2, 4, 5, 6]), True)

    def test_ends_out_of_order(self):
        for breaks in itertools.permutations([2, 4, 5, 6]):
            if list(breaks) != [2, 4, 5, 6]:
                self.refuse(list(breaks), repr(breaks))

    def test_what_is_no_whole_number(self):
        for at in range(4):
            for thing in [True, False, "2", None, [2], (2,), {}, 2.0, 6.0, float("nan")] + [thing for name, thing in things()[3:]]:
                breaks = [2, 4, 5, 6]
                breaks[at] = thing
                self.refuse(breaks, f"at {at}")
        refused(self, BadBreaks, need_breaks, row_of(1), self.lay, [True])
        refused(self, BadBreaks, total, row_of(1), self.lay, [True])
        self.assertIs(need_breaks(row_of(1), self.lay, [1]), True)

    def test_an_end_that_makes_no_line(self):
        self.refuse([3, 4, 5, 6], "three pieces too wide")
        self.refuse([2, 5, 6], "a piece too wide with another one")

    def test_what_is_no_list(self):
        for breaks in [(2, 4, 5, 6), {2: 4}, {2, 4, 5, 6}, "2456", "", 6, None, iter([2, 4, 5, 6]), range(2, 7)]:
            self.refuse(breaks, repr(breaks))
        for name, thing in things():
            self.refuse(thing, name)

    def test_the_breaks_stay_as_they_were(self):
        for breaks in [[2, 4, 5, 6], [6, 2], [2, 4, 5, None]]:
            before = list(breaks)
            try:
                total(self.pieces, self.lay, breaks)
            except BadBreaks:
                pass
            self.assertEqual(breaks, before)


class TotalTest(unittest.TestCase):
    def test_what_its_lines_cost(self):
        pieces = row_of(4, 5, 3, 4, 12, 2)
        self.assertEqual(total(pieces, good_lay(), [2, 4, 5, 6]), 0 + 4 + 200 + 0)
        self.assertEqual(total(pieces, good_lay(), [1, 2, 3, 4, 5, 6]), 36 + 25 + 49 + 36 + 200)

    def test_one_line(self):
        self.assertEqual(total(row_of(3), good_lay(), [1]), 0)
        self.assertEqual(total(row_of(13), good_lay(), [1]), 300)

    def test_twin_for_each_two_parted_lines_one_behind_the_other(self):
        pieces = row_of((9, "part"), (9, "part"), (9, "part"), 9)
        self.assertEqual(total(pieces, good_lay(part=7, twin=1000), [1, 2, 3, 4]), 21 + 2000)
        pieces = row_of((9, "part"), (9, "part"), (10, "soft"), (9, "part"), 9)
        self.assertEqual(total(pieces, good_lay(part=7, twin=1000), [1, 2, 3, 4, 5]), 21 + 1000)
        pieces = row_of((9, "part"), 10, (9, "part"), 9)
        self.assertEqual(total(pieces, good_lay(part=7, twin=1000), [1, 2, 3, 4]), 14)

    def test_no_twin_where_a_part_lies_within_a_line(self):
        pieces = row_of((4, "part"), (5, "part"), (4, "part"), (5, "part"), 9)
        self.assertEqual(total(pieces, good_lay(part=7, twin=1000), [2, 4, 5]), 14 + 1000)
        pieces = row_of((4, "part"), 6, (4, "part"), (5, "part"), 9)
        self.assertEqual(total(pieces, good_lay(part=7, twin=1000), [2, 4, 5]), 7)

    def test_by_chance(self):
        chance = random.Random(13)
        for _ in range(300):
            pieces, lay = row_by_chance(chance, 6), lay_by_chance(chance)
            many = len(pieces)
            for inner in itertools.chain.from_iterable([itertools.combinations(range(1, many), k) for k in range(many)]):
                breaks = list(inner) + [many]
                costs = [plain_cost(pieces, lay, begin, end) for begin, end in zip([0] + breaks, breaks)]
                if None in costs:
                    refused(self, BadBreaks, need_breaks, pieces, lay, breaks)
                    refused(self, BadBreaks, total, pieces, lay, breaks)
                    continue
                joins = [pieces[end - 1][2] for end in breaks]
                twins = sum([pair == ("part", "part") for pair in zip(joins, joins[1:])])
                self.assertIs(need_breaks(pieces, lay, breaks), True)
                self.assertEqual(total(pieces, lay, breaks), sum(costs) + twins * lay["twin"])


if __name__ == "__main__":
    unittest.main()
