"""Leaves: strips that make a page, how high they are and what they cost."""


def marks_in(strips, begin, end):
    return sum([strip[3] for strip in strips[begin:end]])


def may_end(strips, begin, end):
    return strips[end - 1][2] != "never" and "must" not in [strip[2] for strip in strips[begin:end - 1]]


# The least end at which a leaf may end. A "must" behind a strip is no "never", so that none is passed by.
def first_end(strips, begin):
    end = begin + 1
    while end < len(strips) and strips[end - 1][2] == "never":
        end += 1
    return end


def body_height(strips, begin, end):
    height = sum([strip[1] for strip in strips[begin:end]])
    return height + sum([strip[0] for strip in strips[begin + 1:end]])


# The notes at a leaf's foot, as places in the list of all notes: the first one, and the one behind the last.
def foot_of(strips, begin, end, ahead, late):
    before = marks_in(strips, 0, begin)
    return (max(0, before - ahead), before + marks_in(strips, begin, end) - late)


# The row more is that of the rule above the notes.
def foot_height(heights):
    if len(heights) == 0:
        return 0
    return 1 + sum(heights)


def height_of(strips, heights, begin, end, ahead, late):
    foot = foot_of(strips, begin, end, ahead, late)
    return body_height(strips, begin, end) + foot_height(heights[foot[0]:foot[1]])


# What a leaf costs that may end at its end, and whose height is known; None where it is too high
# to be one. Own is how many marks it has.
def cost_at(strips, rules, begin, end, own, late, height):
    last = end == len(strips)
    beyond = height - rules["height"]
    if beyond > 0 and (end > first_end(strips, begin) or not last and late < own):
        return None
    price = rules["late"] * late
    if beyond > 0:
        price += rules["over"] * beyond
    cut = strips[end - 1][2]
    if last or cut == "must":
        return price
    if beyond < 0:
        price += beyond * beyond
    return price + cut


def most_late(strips, end, own):
    return 0 if end == len(strips) else own


def leaf_cost(strips, heights, rules, begin, end, ahead, late):
    if not 0 <= begin < end <= len(strips) or not may_end(strips, begin, end):
        return None
    own = marks_in(strips, begin, end)
    if late > most_late(strips, end, own):
        return None
    return cost_at(strips, rules, begin, end, own, late, height_of(strips, heights, begin, end, ahead, late))


# Each leaf of a filling: its begin and end, how many notes are put off to it, and how many it puts off.
def spans(leaves):
    told = []
    begin = 0
    ahead = 0
    for end, late in leaves:
        told.append((begin, end, ahead, late))
        begin = end
        ahead = late
    return told
