"""A desk on which blocks are put, taken and changed one by one."""

from quirehand.blocks import need_blocks
from quirehand.errors import NoPlace
from quirehand.faces import need_face
from quirehand.joints import need_book
from quirehand.proof import Proof
from quirehand.settings import need_rules
from quirehand.whole import is_within
from quirehand.writing import written


# The error doesn't show what it refuses: that may be any thing, and some can't be shown.
def need_place(at, most):
    if not is_within(at, 0, most):
        raise NoPlace("a place is a whole number from 0 to how many blocks there are")
    return True


class Desk:
    def __init__(self, face, book, rules):
        need_face(face)
        need_book(book)
        need_rules(rules)
        self.face = face
        self.joints = list(book)
        self.rules = dict(rules)
        self.kept = []
        self.proof = Proof(face, self.joints, self.rules, [], {})
        self.anew = 0

    # Whatever refuses the blocks does so ahead of the first value that is given anew.
    def lay_out(self, blocks):
        need_blocks(blocks)
        known = self.proof.breaks
        proof = Proof(self.face, self.joints, self.rules, blocks, known)
        self.anew = len([pieces for pieces in proof.breaks if pieces not in known])
        self.proof = proof
        self.kept = blocks

    def put(self, at, block):
        need_place(at, len(self.kept))
        self.lay_out(self.kept[:at] + [block] + self.kept[at:])

    def take(self, at):
        need_place(at, len(self.kept) - 1)
        gone = self.kept[at]
        self.lay_out(self.kept[:at] + self.kept[at + 1:])
        return gone

    def change(self, at, block):
        need_place(at, len(self.kept) - 1)
        gone = self.kept[at]
        self.lay_out(self.kept[:at] + [block] + self.kept[at + 1:])
        return gone

    def blocks(self):
        return list(self.kept)

    def text(self):
        return written(self.kept)

    def pages(self):
        return self.proof.pages()

    def fresh(self):
        return self.anew
