"""Cells of tables: their words set in a width."""

from quirehand.faces import wide


def word_widths(face, words):
    return [wide(face, word) for word in words]


# The begin and end of each line of words that are as wide as told.
def fill(widths, blank, width):
    lines = []
    begin = 0
    full = 0
    for place, word_width in enumerate(widths):
        if place > begin and full + blank + word_width > width:
            lines.append((begin, place))
            begin = place
        full = word_width if place == begin else full + blank + word_width
    if begin < len(widths):
        lines.append((begin, len(widths)))
    return lines


def filled_rows(face, words, width):
    return fill(word_widths(face, words), face[1], width)


def go_in(cells, blank, width, rows):
    return all([len(fill(widths, blank, width)) <= rows for widths in cells])


# In a greater width no cell has more lines, so that the least one is found by halving.
def least_width(face, cells, rows):
    widths = [word_widths(face, words) for words in cells]
    least = max([max(part, default=1) for part in widths], default=1)
    most = max([sum(part) + face[1] * len(part) for part in widths], default=1)
    while least < most:
        middle = (least + most) // 2
        if go_in(widths, face[1], middle, rows):
            most = middle
        else:
            least = middle + 1
    return least
