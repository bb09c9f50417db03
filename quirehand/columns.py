"""Tables: the widths of their columns, and their rows set in them."""

from quirehand.cells import filled_rows, least_width
from quirehand.errors import TooWide


def between(face):
    return 2 * face[1]


def column_cells(table):
    return [[row[at] for row in table] for at in range(len(table[0]))]


# Cells with a word in each line are as narrow as they can be: more lines than words change nothing.
def most_lines(table):
    return max([max([len(cell) for cell in row]) for row in table])


def columns(face, rules, table):
    cells = column_cells(table)
    free = rules["width"] - between(face) * (len(cells) - 1)
    for lines in range(1, max(1, most_lines(table)) + 1):
        widths = [least_width(face, part, lines) for part in cells]
        if sum(widths) <= free:
            return (lines, widths)
    raise TooWide("the table is wider than the rules' width for any number of lines")


def set_row(face, row, widths):
    spots = []
    height = 1
    left = 0
    for cell, width in zip(row, widths):
        lines = filled_rows(face, cell, width)
        for top, line in enumerate(lines):
            spots.append((top, left, " ".join(cell[line[0]:line[1]])))
        height = max(height, len(lines))
        left += width + between(face)
    return (height, spots)
