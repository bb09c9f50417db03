"""Blocks set from beginning to end: what a Book and a Desk have in common."""

from quirehand.breaking import broken
from quirehand.filling import filled
from quirehand.galley import strips_of
from quirehand.leaves import leaf_cost, spans
from quirehand.lines import total
from quirehand.marks import note_pairs, noted
from quirehand.pieces import lay_of, pieces_of
from quirehand.placing import note_height, placed
from quirehand.rowing import block_rows, line_rows


# The breaks of each of these rows of pieces; those that are known are not looked for again.
def breaks_of(paragraphs, lay, known):
    breaks = {}
    for pieces in paragraphs:
        if pieces in known:
            breaks[pieces] = known[pieces]
        elif pieces not in breaks:
            breaks[pieces] = broken(pieces, lay)
    return breaks


# Rows of pieces are tuples here, so that their breaks can be kept by them in a dict.
# The rules are the proof's own: it must be made with a dict that nobody changes.
class Proof:
    def __init__(self, face, book, rules, blocks, known):
        told = noted(blocks)
        numbered = [note_pairs(number, note) for number, note in enumerate(told[0], start=1)]
        texts = [tuple(pieces_of(face, book, rules, pairs)) for pairs in told[1]]
        notes = [tuple(pieces_of(face, book, rules, pairs)) for pairs in numbered]
        self.rules = rules
        self.lay = lay_of(face, rules)
        self.paragraphs = [pieces for pieces in texts if len(pieces) > 0] + notes
        self.breaks = breaks_of(self.paragraphs, self.lay, known)
        by_block = [
            block_rows(face, rules, block, pieces, self.breaks.get(pieces, [])) for block, pieces in zip(blocks, texts)
        ]
        self.strips = strips_of(rules, [block[0] for block in blocks], by_block)
        self.rows = []
        self.begins = []
        for own in by_block:
            self.begins.append(len(self.rows))
            self.rows.extend(own)
        self.notes = [line_rows(pieces, self.lay, self.breaks[pieces], []) for pieces in notes]
        self.heights = [note_height(note) for note in self.notes]
        self.filling = None

    # The best filling is looked for when it is first asked for, as not every proof is turned into pages.
    def leaves(self):
        if self.filling is None:
            self.filling = filled(self.strips, self.heights, self.rules)
        return self.filling

    def pages(self):
        return placed(self.rules, self.strips, self.rows, self.notes, self.leaves())

    def break_cost(self):
        return sum([total(pieces, self.lay, self.breaks[pieces]) for pieces in self.paragraphs])

    def filling_cost(self):
        costs = []
        for begin, end, ahead, late in spans(self.leaves()):
            costs.append(leaf_cost(self.strips, self.heights, self.rules, begin, end, ahead, late))
        return sum(costs)
