"""Point 14: prices and the best breaks."""

import copy
import itertools
import random
import unittest

from quirehand.breaking import broken, prices
from quirehand.errors import BadBreaks
from quirehand.lines import need_breaks, total
from helper import good_lay, lay_by_chance, row_by_chance, row_of


def all_breaks(pieces, lay):
    many = len(pieces)
    for inner in itertools.chain.from_iterable([itertools.combinations(range(1, many), k) for k in range(many)]):
        breaks = list(inner) + [many]
        try:
            need_breaks(pieces, lay, breaks)
        except BadBreaks:
            continue
        yield breaks


def plain_prices(pieces, lay):
    """Each price by all ways to break what lies behind its place."""
    told = []
    for place in range(len(pieces)):
        rest = pieces[place:]
        pairs = []
        for breaks in all_breaks(rest, lay):
            price = total(rest, lay, breaks)
            twin = lay["twin"] if rest[breaks[0] - 1][2] == "part" else 0
            pairs.append((price, price + twin))
        told.append((min([pair[0] for pair in pairs]), min([pair[1] for pair in pairs])))
    return told + [(0, 0)]


class BreakingTest(unittest.TestCase):
    def test_one_piece(self):
        self.assertEqual(prices(row_of(3), good_lay()), [(0, 0), (0, 0)])
        self.assertEqual(broken(row_of(3), good_lay()), [1])
        self.assertEqual(prices(row_of(13), good_lay()), [(300, 300), (0, 0)])
        self.assertEqual(broken(row_of(13), good_lay()), [1])

    def test_not_line_by_line(self):
        # As much as goes in first would leave a spare of 7 in the second line.
        pieces = row_of(4, 5, 3, 9, 8)
        self.assertEqual(broken(pieces, good_lay()), [1, 3, 4, 5])
        self.assertEqual(prices(pieces, good_lay())[0], (36 + 1 + 1, 36 + 1 + 1))

    def test_a_longer_line_that_is_narrower(self):
        # The line of two pieces is too wide with its dash, that of three has none.
        pieces = row_of(3, (5, "part"), (1, "soft"), 9)
        self.assertEqual(broken(pieces, good_lay(dash=4)), [3, 4])

    def test_the_second_price_has_the_twin(self):
        pieces = row_of((9, "part"), (9, "part"), 9)
        self.assertEqual(prices(pieces, good_lay(part=7, twin=5)), [(19, 24), (7, 12), (0, 0), (0, 0)])

    def test_the_second_price_may_be_that_of_other_breaks(self):
        # Behind a parted line it costs less to break ahead of the part.
        pieces = row_of(8, (1, "part"), 8)
        lay = good_lay(width=11, dash=1, part=1, twin=20)
        self.assertEqual(prices(pieces, lay)[0], (1, 9))

    def test_of_several_best_breaks_the_greatest_ends(self):
        pieces = row_of(3, 3, 3, 3)
        lay = good_lay(width=7)
        self.assertEqual(broken(pieces, lay), [2, 4])
        lay = good_lay(width=3)
        self.assertEqual(broken(pieces, lay), [1, 2, 3, 4])
        pieces = row_of(1, 1, 1)
        self.assertEqual(broken(pieces, good_lay(width=1)), [1, 2, 3])
        # The spare of 2 may stand in the first line or in the second one.
        pieces = row_of(2, 1, 2, 9)
        self.assertEqual(total(pieces, good_lay(width=4), [2, 3, 4]), total(pieces, good_lay(width=4), [1, 3, 4]))
        self.assertEqual(broken(pieces, good_lay(width=4)), [2, 3, 4])

    def test_against_all_ways(self):
        chance = random.Random(14)
        for _ in range(400):
            pieces, lay = row_by_chance(chance, 8), lay_by_chance(chance)
            self.assertEqual(prices(pieces, lay), plain_prices(pieces, lay))
            ways = list(all_breaks(pieces, lay))
            least = min([total(pieces, lay, breaks) for breaks in ways])
            best = max([breaks for breaks in ways if total(pieces, lay, breaks) == least])
            self.assertEqual(broken(pieces, lay), best)
            self.assertEqual(prices(pieces, lay)[0][0], least)

    def test_against_all_ways_where_many_cost_the_same(self):
        chance = random.Random(141)
        several = 0
        for _ in range(500):
            pieces = row_by_chance(chance, 9, 2)
            lay = good_lay(
                width=chance.randint(1, 5), part=chance.choice([0, 1]), twin=chance.choice([0, 1]), over=1,
                dash=chance.randint(1, 2))
            ways = list(all_breaks(pieces, lay))
            least = min([total(pieces, lay, breaks) for breaks in ways])
            best = [breaks for breaks in ways if total(pieces, lay, breaks) == least]
            several += len(best) > 1
            self.assertEqual(broken(pieces, lay), max(best))
        self.assertGreater(several, 30)

    def test_some_hundred_pieces(self):
        chance = random.Random(142)
        pieces = row_of(*[(chance.randint(1, 9), chance.choice(["blank", "part", "soft"])) for _ in range(900)])
        for width in [1, 10, 60, 2000, 100000]:
            lay = good_lay(width=width)
            breaks = broken(pieces, lay)
            self.assertIs(need_breaks(pieces, lay, breaks), True)
            told = prices(pieces, lay)
            self.assertEqual(len(told), 901)
            self.assertEqual(told[0][0], total(pieces, lay, breaks))

    def test_kinds(self):
        pieces, lay = row_of((4, "part"), 5, 6), good_lay()
        told = prices(pieces, lay)
        self.assertIs(told.__class__, list)
        self.assertEqual({pair.__class__ for pair in told}, {tuple})
        self.assertEqual({len(pair) for pair in told}, {2})
        self.assertIs(broken(pieces, lay).__class__, list)

    def test_what_is_handed_in_stays_as_it_was(self):
        pieces, lay = row_of((4, "part"), 5, 6, (13, "soft"), 2), good_lay()
        before = copy.deepcopy((pieces, lay))
        first, breaks = prices(pieces, lay), broken(pieces, lay)
        self.assertEqual((pieces, lay), before)
        again = (list(first), list(breaks))
        first.clear()
        breaks.append(99)
        self.assertEqual((prices(pieces, lay), broken(pieces, lay)), again)


if __name__ == "__main__":
    unittest.main()
