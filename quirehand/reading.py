"""Blocks read from a text."""

from quirehand.blocks import MOST_BLOCKS, MOST_NOTES, is_block, many_notes
from quirehand.errors import BadText


# Each run of rows with signs, and the number of its first row.
def runs_of(text):
    runs = []
    within = False
    for number, row in enumerate(text.split("\n")):
        bare = row.strip(" ")
        if bare != "" and not within:
            runs.append((number, []))
        within = bare != ""
        if within:
            runs[-1][1].append(bare)
    return runs


def words_of(row):
    return tuple([word for word in row.split(" ") if word != ""])


def is_table_row(row):
    return len(row) > 1 and row.startswith("|") and row.endswith("|")


def cells_of(row):
    return tuple([words_of(cell) for cell in row[1:-1].split("|")])


def word_end(line, begin):
    end = begin
    while end < len(line) and line[end] not in " {":
        end += 1
    return end


def blanks_end(line, begin):
    end = begin
    while end < len(line) and line[end] == " ":
        end += 1
    return end


# None where braces are not closed, or where something stands right behind them.
# Braces at other wrong places come into words, and make them none.
def pairs_of(line):
    pairs = []
    begin = 0
    while begin < len(line):
        end = word_end(line, begin)
        word = line[begin:end]
        notes = []
        while end < len(line) and line[end] == "{":
            close = line.find("}", end)
            if close < 0:
                return None
            notes.append(words_of(line[end + 1:close]))
            end = close + 1
        if end < len(line) and line[end] != " ":
            return None
        pairs.append((word, tuple(notes)))
        begin = blanks_end(line, end)
    return tuple(pairs)


# What is told need not be a block. A row that begins with =, ~ or a bar can't be one of a text,
# so that what is no good head, leaf or table is no block at all.
def block_of(rows):
    if rows == ["~"]:
        return ("leaf",)
    if len(rows) == 1 and rows[0].startswith("= "):
        return ("head", words_of(rows[0][1:]))
    if all([is_table_row(row) for row in rows]):
        return ("table", tuple([cells_of(row) for row in rows]))
    return ("text", pairs_of(" ".join(rows)))


def read(text):
    if not isinstance(text, str):
        raise BadText(0)
    blocks = []
    notes = 0
    for number, rows in runs_of(text):
        block = block_of(rows)
        if not is_block(block) or len(blocks) == MOST_BLOCKS:
            raise BadText(number)
        notes += many_notes(block)
        if notes > MOST_NOTES:
            raise BadText(number)
        blocks.append(block)
    return blocks
