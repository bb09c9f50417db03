"""Lines of pieces: how wide they are, what they cost, and breaks."""

from quirehand.errors import BadBreaks
from quirehand.whole import is_within


def ends_parted(pieces, end):
    return pieces[end - 1][2] == "part"


def dash_behind(pieces, lay, end):
    return lay["dash"] if ends_parted(pieces, end) else 0


def blank_behind(pieces, lay, end):
    return lay["blank"] if pieces[end - 1][2] == "blank" else 0


def natural(pieces, lay, begin, end):
    width = sum([piece[1] for piece in pieces[begin:end]])
    blanks = sum([blank_behind(pieces, lay, place) for place in range(begin + 1, end)])
    return width + blanks + dash_behind(pieces, lay, end)


# What a line costs whose width is known.
def cost_at(pieces, lay, begin, end, width):
    spare = lay["width"] - width
    if spare < 0 and end - begin > 1:
        return None
    part = lay["part"] if ends_parted(pieces, end) else 0
    if spare < 0:
        return part - spare * lay["over"]
    if end == len(pieces):
        return part
    return part + spare * spare


def cost(pieces, lay, begin, end):
    if not 0 <= begin < end <= len(pieces):
        return None
    return cost_at(pieces, lay, begin, end, natural(pieces, lay, begin, end))


# Each end of a line from begin on, and what that line costs. A line with no dash at its end may be
# narrower than a shorter one, so the search ends where even without a dash it is too wide.
def lines_from(pieces, lay, begin):
    found = []
    bare = 0
    for end in range(begin + 1, len(pieces) + 1):
        bare += pieces[end - 1][1]
        if bare > lay["width"] and end > begin + 1:
            break
        price = cost_at(pieces, lay, begin, end, bare + dash_behind(pieces, lay, end))
        if price is not None:
            found.append((end, price))
        bare += blank_behind(pieces, lay, end)
    return found


def are_breaks(pieces, lay, thing):
    if not isinstance(thing, list):
        return False
    begin = 0
    for end in thing:
        if not is_within(end, begin + 1, len(pieces)) or cost(pieces, lay, begin, end) is None:
            return False
        begin = end
    return begin == len(pieces)


# The error doesn't show what it refuses: that may be any thing, and some can't be shown.
def need_breaks(pieces, lay, breaks):
    if not are_breaks(pieces, lay, breaks):
        raise BadBreaks("breaks are a list of the rising ends of lines, the last one the number of pieces")
    return True


def total(pieces, lay, breaks):
    need_breaks(pieces, lay, breaks)
    price = 0
    begin = 0
    for end in breaks:
        price += cost(pieces, lay, begin, end)
        if begin > 0 and ends_parted(pieces, begin) and ends_parted(pieces, end):
            price += lay["twin"]
        begin = end
    return price
