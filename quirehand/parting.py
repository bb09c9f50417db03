"""Words, and the places at which they may be parted or broken."""

from quirehand.errors import BadWord
from quirehand.faces import is_sign
from quirehand.joints import SMALL, letters_of, telling

MOST_SIGNS = 40


def is_word(thing):
    if not isinstance(thing, str) or not 1 <= len(thing) <= MOST_SIGNS:
        return False
    return all([is_sign(sign) for sign in thing])


# The error doesn't show what it refuses: that may be any thing, and some can't be shown.
def need_word(thing):
    if not is_word(thing):
        raise BadWord("a word is a text of 1 to 40 signs of words")
    return True


def is_letter(sign):
    return sign.lower() in SMALL


def letters_ahead(word, place):
    many = 0
    while many < place and is_letter(word[place - many - 1]):
        many += 1
    return many


def letters_behind(word, place):
    many = 0
    while place + many < len(word) and is_letter(word[place + many]):
        many += 1
    return many


# The run of letters is counted first: it is quicker than the search for the joint that tells.
def may_part(book, rules, word, place):
    if letters_ahead(word, place) < rules["ahead"] or letters_behind(word, place) < rules["behind"]:
        return False
    joint = telling(book, word, place)
    return joint is not None and "-" in joint


def is_soft(word, place):
    if place < 2 or word[place - 1] != "-":
        return False
    return is_letter(word[place - 2]) and is_letter(word[place])


def join_at(book, rules, word, place):
    if may_part(book, rules, word, place):
        return "part"
    if is_soft(word, place):
        return "soft"
    return None


# Most joints have letters that stand nowhere in the word, and needn't be asked at each of its places.
def joints_within(book, word):
    small = word.lower()
    return [joint for joint in book if letters_of(joint) in small]


def places(book, rules, word):
    need_word(word)
    own = joints_within(book, word)
    joins = [(place, join_at(own, rules, word, place)) for place in range(1, len(word))]
    return [(place, join) for place, join in joins if join is not None]


def parted(book, rules, word):
    texts = []
    begin = 0
    for place, join in places(book, rules, word):
        texts.append((word[begin:place], join))
        begin = place
    texts.append((word[begin:], "blank"))
    return texts
