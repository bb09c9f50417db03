"""Blocks: heads, texts with their notes, tables and leaves."""

from quirehand.errors import BadBlocks
from quirehand.parting import is_word

MOST_HEAD_WORDS = 12
MOST_PAIRS = 200
MOST_WORD_NOTES = 3
MOST_NOTE_WORDS = 30
MOST_ROWS = 20
MOST_CELLS = 4
MOST_CELL_WORDS = 12
MOST_BLOCKS = 40
MOST_NOTES = 60


def is_tuple_of(thing, least, most, is_part):
    if not isinstance(thing, tuple) or not least <= len(thing) <= most:
        return False
    return all([is_part(part) for part in thing])


def is_note(thing):
    return is_tuple_of(thing, 1, MOST_NOTE_WORDS, is_word)


def is_pair(thing):
    if not isinstance(thing, tuple) or len(thing) != 2:
        return False
    return is_word(thing[0]) and is_tuple_of(thing[1], 0, MOST_WORD_NOTES, is_note)


def is_cell(thing):
    return is_tuple_of(thing, 0, MOST_CELL_WORDS, is_word)


def is_row(thing):
    return is_tuple_of(thing, 1, MOST_CELLS, is_cell)


def is_table(thing):
    return is_tuple_of(thing, 1, MOST_ROWS, is_row) and all([len(row) == len(thing[0]) for row in thing])


# The kind is known to be a text ahead of any comparison: other things may fail at one.
def is_block(thing):
    if not isinstance(thing, tuple) or len(thing) not in (1, 2) or not isinstance(thing[0], str):
        return False
    if len(thing) == 1:
        return thing[0] == "leaf"
    if thing[0] == "head":
        return is_tuple_of(thing[1], 1, MOST_HEAD_WORDS, is_word)
    if thing[0] == "text":
        return is_tuple_of(thing[1], 1, MOST_PAIRS, is_pair)
    return thing[0] == "table" and is_table(thing[1])


def many_notes(block):
    if block[0] != "text":
        return 0
    return sum([len(notes) for word, notes in block[1]])


def are_blocks(thing):
    if not isinstance(thing, list) or len(thing) > MOST_BLOCKS:
        return False
    if not all([is_block(part) for part in thing]):
        return False
    return sum([many_notes(block) for block in thing]) <= MOST_NOTES


# The error doesn't show what it refuses: that may be any thing, and some can't be shown.
def need_blocks(blocks):
    if not are_blocks(blocks):
        raise BadBlocks("blocks are a list of at most 40 blocks with at most 60 notes in all")
    return True
