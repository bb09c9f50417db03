"""Whole numbers, as all points of the document mean them."""


# Python counts True and False among its ints; the document doesn't.
def is_whole(thing):
    return isinstance(thing, int) and not isinstance(thing, bool)


def is_within(thing, least, most):
    return is_whole(thing) and least <= thing <= most
