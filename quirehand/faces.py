"""Signs of words, and the faces that tell how wide they are."""

from quirehand.errors import BadFace
from quirehand.whole import is_within

SIGNS = "abcdefghijklmnopqrstuvwxyzABCDEFGHIJKLMNOPQRSTUVWXYZ0123456789.,;:!?'\"()-/"
LEAST_WIDTH = 1
MOST_WIDTH = 20


# The length is asked for by itself: the empty text and "ab" are found in SIGNS, too.
def is_sign(thing):
    return isinstance(thing, str) and len(thing) == 1 and thing in SIGNS


def is_width(thing):
    return is_within(thing, LEAST_WIDTH, MOST_WIDTH)


def is_odd_pair(thing):
    if not isinstance(thing, tuple) or len(thing) != 2:
        return False
    return is_sign(thing[0]) and is_width(thing[1])


def is_odd(thing):
    if not isinstance(thing, tuple):
        return False
    # The empty text lies ahead of every sign, so the first pair needs no case of its own.
    ahead = ""
    for pair in thing:
        if not is_odd_pair(pair) or pair[0] <= ahead:
            return False
        ahead = pair[0]
    return True


def is_face(thing):
    if not isinstance(thing, tuple) or len(thing) != 3:
        return False
    return is_width(thing[0]) and is_width(thing[1]) and is_odd(thing[2])


# The error doesn't show what it refuses: that may be any thing, and some can't be shown.
def need_face(face):
    if not is_face(face):
        raise BadFace("a face is a tuple of plain, blank and odd")
    return True


def wide(face, line):
    widths = dict(face[2])
    widths[" "] = face[1]
    return sum([widths.get(sign, face[0]) for sign in line])
