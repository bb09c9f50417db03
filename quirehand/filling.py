"""The best filling of leaves with strips."""

from quirehand.leaves import cost_at, most_late


# What lies ahead of each place, the one behind the last too.
def sums_of(numbers):
    sums = [0]
    for number in numbers:
        sums.append(sums[-1] + number)
    return sums


# Each end at which a leaf from begin may end, with the height of its strips and how many marks it has;
# beyond the last one told its strips alone are too high.
def bodies_from(strips, rules, begin):
    bodies = []
    body = 0
    own = 0
    for end in range(begin + 1, len(strips) + 1):
        strip = strips[end - 1]
        body += strip[1] + (strip[0] if end > begin + 1 else 0)
        own += strip[3]
        if strip[2] != "never":
            bodies.append((end, body, own))
            if strip[2] == "must" or body > rules["height"]:
                break
    return bodies


# The prices of all places from the last one back to the first, each found by those behind it.
class Filler:
    def __init__(self, strips, heights, rules):
        self.strips = strips
        self.rules = rules
        self.feet = sums_of(heights)
        self.marks = sums_of([strip[3] for strip in strips])
        self.found = [[0]] * (len(strips) + 1)
        for begin in range(len(strips) - 1, -1, -1):
            bodies = bodies_from(strips, rules, begin)
            self.found[begin] = [self.price(begin, bodies, ahead) for ahead in range(self.marks[begin] + 1)]

    def foot(self, first, beyond):
        if first == beyond:
            return 0
        return 1 + self.feet[beyond] - self.feet[first]

    # Each leaf, as a tuple: its end, how many notes it puts off, and what it costs with the best ones behind it.
    # Behind the first end, which has one always, no leaf is too high: not even if it puts off all its notes.
    def ways(self, begin, bodies, ahead):
        told = []
        before = self.marks[begin]
        least = self.foot(before - ahead, before)
        for end, body, own in bodies:
            if len(told) > 0 and body + least > self.rules["height"]:
                break
            for late in range(most_late(self.strips, end, own) + 1):
                height = body + self.foot(before - ahead, before + own - late)
                price = cost_at(self.strips, self.rules, begin, end, own, late, height)
                if price is not None:
                    told.append((end, late, price + self.found[end][late]))
        return told

    def price(self, begin, bodies, ahead):
        return min([way[2] for way in self.ways(begin, bodies, ahead)])

    def best(self, begin, ahead):
        ways = self.ways(begin, bodies_from(self.strips, self.rules, begin), ahead)
        good = [way for way in ways if way[2] == self.found[begin][ahead]]
        return max(good, key=lambda way: (way[0], -way[1]))


def leaf_prices(strips, heights, rules):
    return Filler(strips, heights, rules).found


# From each place and number of notes on the best leaves are told by the price alone, whatever stands
# ahead: so the best end and late may be taken leaf by leaf.
def filled(strips, heights, rules):
    filler = Filler(strips, heights, rules)
    leaves = []
    begin = 0
    ahead = 0
    while begin < len(strips):
        way = filler.best(begin, ahead)
        begin = way[0]
        ahead = way[1]
        leaves.append((begin, ahead))
    return leaves
