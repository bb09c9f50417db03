"""Lines spread out to their width."""

from quirehand.lines import ends_parted, natural


# A line's runs, each a pair of its text and its width; where a line ends with a part, its last run's
# width is told without the dash, as nothing stands behind it.
def runs_of(pieces, begin, end):
    runs = []
    text = ""
    width = 0
    for place in range(begin, end):
        text += pieces[place][0]
        width += pieces[place][1]
        if pieces[place][2] == "blank" or place == end - 1:
            runs.append((text, width))
            text = ""
            width = 0
    if ends_parted(pieces, end):
        runs[-1] = (runs[-1][0] + "-", runs[-1][1])
    return runs


def spare_of(pieces, lay, begin, end):
    if end == len(pieces):
        return 0
    return max(0, lay["width"] - natural(pieces, lay, begin, end))


# How much each gap between runs has beside its blank.
def shares(spare, gaps):
    return [spare // gaps + (1 if gap < spare % gaps else 0) for gap in range(gaps)]


def spread(pieces, lay, begin, end):
    runs = runs_of(pieces, begin, end)
    more = shares(spare_of(pieces, lay, begin, end), len(runs) - 1)
    spots = []
    left = 0
    for at, run in enumerate(runs):
        spots.append((left, run[0]))
        if at < len(more):
            left += run[1] + lay["blank"] + more[at]
    return spots
