"""Blocks written as a text."""

from quirehand.blocks import need_blocks


def note_text(note):
    return "{" + " ".join(note) + "}"


def pair_text(word, notes):
    return word + "".join([note_text(note) for note in notes])


def row_text(row):
    return "| " + " | ".join([" ".join(cell) for cell in row]) + " |"


def block_text(block):
    if block[0] == "head":
        return "= " + " ".join(block[1])
    if block[0] == "text":
        return " ".join([pair_text(word, notes) for word, notes in block[1]])
    if block[0] == "table":
        return "\n".join([row_text(row) for row in block[1]])
    return "~"


def written(blocks):
    need_blocks(blocks)
    return "\n\n".join([block_text(block) for block in blocks])
