"""Rows of pieces, and the lay by which they are set into lines."""

from quirehand.faces import wide
from quirehand.parting import parted


def lay_of(face, rules):
    return {
        "width": rules["width"],
        "part": rules["part"],
        "twin": rules["twin"],
        "over": rules["over"],
        "blank": face[1],
        "dash": wide(face, "-"),
    }


def pieces_of(face, book, rules, pairs):
    pieces = []
    for word, tail in pairs:
        for text, join in parted(book, rules, word):
            # Behind a word's last piece alone there is a blank.
            full = text + tail if join == "blank" else text
            pieces.append((full, wide(face, full), join))
    return pieces
