"""The best breaks of a row of pieces."""

from quirehand.lines import ends_parted, lines_from


# Each line from a place on, as a tuple: its end, and what it costs with all that is best behind it,
# as if the line ahead ended without "part", and as if with it.
def ways_from(pieces, lay, found, place):
    ways = []
    for end, price in lines_from(pieces, lay, place):
        if ends_parted(pieces, end):
            plain = price + found[end][1]
            ways.append((end, plain, plain + lay["twin"]))
        else:
            plain = price + found[end][0]
            ways.append((end, plain, plain))
    return ways


def prices(pieces, lay):
    found = [(0, 0)] * (len(pieces) + 1)
    for place in range(len(pieces) - 1, -1, -1):
        ways = ways_from(pieces, lay, found, place)
        found[place] = (min([way[1] for way in ways]), min([way[2] for way in ways]))
    return found


# From each place on the best lines are told by its price alone, whatever stands ahead of it:
# so the greatest end may be taken line by line.
def broken(pieces, lay):
    found = prices(pieces, lay)
    breaks = []
    place = 0
    told = 0
    while place < len(pieces):
        ways = ways_from(pieces, lay, found, place)
        place = max([way[0] for way in ways if way[1 + told] == found[place][told]])
        told = 1 if ends_parted(pieces, place) else 0
        breaks.append(place)
    return breaks
