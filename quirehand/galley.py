"""The galley: all set rows one below the other, as strips."""


# What it costs to end a page behind a row of a block of so many, where more rows follow and no leaf.
def cut_of(rules, kind, place, many):
    if kind == "head":
        return "never"
    if kind != "text" or place == many - 1:
        return 0
    ends = (1 if place == 0 else 0) + (1 if place == many - 2 else 0)
    return ends * rules["lone"]


def with_cut(strip, cut):
    return (strip[0], strip[1], cut, strip[3])


def strips_of(rules, kinds, rows):
    strips = []
    after_leaf = False
    for kind, own in zip(kinds, rows):
        if kind == "leaf":
            after_leaf = True
        for place, row in enumerate(own):
            # Only now it is known that the leaf has rows behind it.
            if after_leaf and len(strips) > 0:
                strips[-1] = with_cut(strips[-1], "must")
            after_leaf = False
            gap = rules["gap"] if place == 0 and len(strips) > 0 else 0
            strips.append((gap, row[0], cut_of(rules, kind, place, len(own)), row[2]))
    if len(strips) > 0:
        strips[-1] = with_cut(strips[-1], 0)
    return strips
