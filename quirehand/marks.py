"""Notes, and the marks behind the words that have them."""


def notes_of(block):
    notes = []
    if block[0] == "text":
        for word, own in block[1]:
            notes.extend(own)
    return notes


def tail_of(first, many):
    return "".join([f"({number})" for number in range(first, first + many)])


# The pairs of a text whose first note has this number.
def text_pairs(pairs, first):
    told = []
    number = first
    for word, notes in pairs:
        told.append((word, tail_of(number, len(notes))))
        number += len(notes)
    return told


def pairs_of(block, first):
    if block[0] == "head":
        return [(word, "") for word in block[1]]
    if block[0] == "text":
        return text_pairs(block[1], first)
    return []


def noted(blocks):
    notes = []
    pairs = []
    for block in blocks:
        pairs.append(pairs_of(block, len(notes) + 1))
        notes.extend(notes_of(block))
    return (notes, pairs)


def note_pairs(number, note):
    return [(f"{number}.", "")] + [(word, "") for word in note]
