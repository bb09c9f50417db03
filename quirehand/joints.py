"""Joints, which tell where words are parted and where they are not, and books of them."""

from quirehand.errors import BadBook

SMALL = "abcdefghijklmnopqrstuvwxyz"
LEAST_LETTERS = 2
MOST_LETTERS = 8
MOST_JOINTS = 100


# One of the two marks is not there, and find tells -1 of it.
def mark_at(joint):
    return max(joint.find("-"), joint.find("="))


def letters_of(joint):
    return joint.replace("-", "").replace("=", "")


def is_joint(thing):
    if not isinstance(thing, str) or not LEAST_LETTERS < len(thing) <= MOST_LETTERS + 1:
        return False
    letters = letters_of(thing)
    if len(letters) != len(thing) - 1 or not 0 < mark_at(thing) < len(thing) - 1:
        return False
    return all([letter in SMALL for letter in letters])


def is_book(thing):
    if not isinstance(thing, list) or len(thing) > MOST_JOINTS:
        return False
    seen = {}
    for joint in thing:
        if not is_joint(joint):
            return False
        # Which of the marks it is doesn't count: one place of one row of letters is told of once.
        place = joint.replace("=", "-")
        if place in seen:
            return False
        seen[place] = True
    return True


# The error doesn't show what it refuses: that may be any thing, and some can't be shown.
def need_book(book):
    if not is_book(book):
        raise BadBook("a book is a list of at most 100 joints, each letters and place told once")
    return True


# A slice that begins below nought would be cut from the word's end.
def fits(joint, word, place):
    letters = letters_of(joint)
    begin = place - mark_at(joint)
    return begin >= 0 and word[begin:begin + len(letters)].lower() == letters


def rank(joint):
    return (len(joint), mark_at(joint))


def telling(book, word, place):
    best = None
    for joint in book:
        if fits(joint, word, place) and (best is None or rank(joint) > rank(best)):
            best = joint
    return best
