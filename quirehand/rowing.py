"""The set rows of blocks and notes."""

from quirehand.breaking import broken
from quirehand.columns import columns, set_row
from quirehand.marks import note_pairs
from quirehand.pieces import lay_of, pieces_of
from quirehand.spreading import spread


# How many notes each word of a block has; none are told of words that can't have any.
def marks_of(block):
    if block[0] != "text":
        return []
    return [len(notes) for word, notes in block[1]]


# Only the last piece of a word has a blank behind it.
def words_in(pieces, begin, end):
    return len([piece for piece in pieces[begin:end] if piece[2] == "blank"])


def line_rows(pieces, lay, breaks, marks):
    rows = []
    begin = 0
    word = 0
    for end in breaks:
        beyond = word + words_in(pieces, begin, end)
        spots = [(0, left, text) for left, text in spread(pieces, lay, begin, end)]
        rows.append((1, spots, sum(marks[word:beyond])))
        begin = end
        word = beyond
    return rows


def table_rows(face, rules, table):
    widths = columns(face, rules, table)[1]
    rows = []
    for row in table:
        told = set_row(face, row, widths)
        rows.append((told[0], told[1], 0))
    return rows


# The rows of a block whose pieces and breaks are known; a table and a leaf have none of these.
def block_rows(face, rules, block, pieces, breaks):
    if block[0] == "table":
        return table_rows(face, rules, block[1])
    return line_rows(pieces, lay_of(face, rules), breaks, marks_of(block))


def rows_of(face, book, rules, block, pairs):
    pieces = pieces_of(face, book, rules, pairs)
    return block_rows(face, rules, block, pieces, broken(pieces, lay_of(face, rules)))


def note_rows(face, book, rules, number, note):
    pieces = pieces_of(face, book, rules, note_pairs(number, note))
    lay = lay_of(face, rules)
    return line_rows(pieces, lay, broken(pieces, lay), [])
