"""Pages: strips and notes at their places."""

from quirehand.leaves import body_height, foot_of, spans


def lowered(spots, rows):
    return [(top + rows, left, text) for top, left, text in spots]


def body_spots(strips, rows, begin, end):
    spots = []
    top = 0
    for place in range(begin, end):
        if place > begin:
            top += strips[place][0]
        spots.extend(lowered(rows[place][1], top))
        top += strips[place][1]
    return spots


def note_height(note):
    return sum([row[0] for row in note])


def foot_spots(notes, first):
    spots = []
    top = first
    for note in notes:
        for row in note:
            spots.extend(lowered(row[1], top))
            top += row[0]
    return spots


# The notes end with the page's last row, unless the body leaves no room for that.
def page_of(rules, strips, rows, notes, span):
    begin = span[0]
    end = span[1]
    body = body_spots(strips, rows, begin, end)
    foot = foot_of(strips, begin, end, span[2], span[3])
    own = notes[foot[0]:foot[1]]
    if len(own) == 0:
        return (body, None, [])
    height = sum([note_height(note) for note in own])
    rule = max(body_height(strips, begin, end), rules["height"] - height - 1)
    return (body, rule, foot_spots(own, rule + 1))


def placed(rules, strips, rows, notes, leaves):
    return [page_of(rules, strips, rows, notes, span) for span in spans(leaves)]
