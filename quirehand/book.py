"""A text set into pages."""

from quirehand.errors import NoNote
from quirehand.faces import need_face
from quirehand.joints import need_book
from quirehand.leaves import marks_in
from quirehand.proof import Proof
from quirehand.reading import read
from quirehand.settings import need_rules
from quirehand.whole import is_within


# The number, from 1, of the page on which a strip stands.
def page_number(leaves, place):
    return 1 + len([end for end, late in leaves if end <= place])


# The place of the strip in which a note has its mark.
def mark_place(strips, number):
    place = 0
    marks = strips[0][3]
    while marks < number:
        place += 1
        marks += strips[place][3]
    return place


class Book:
    def __init__(self, text, face, book, rules):
        need_face(face)
        need_book(book)
        need_rules(rules)
        blocks = read(text)
        self.proof = Proof(face, list(book), dict(rules), blocks, {})
        self.titles = [
            (" ".join(block[1]), begin) for block, begin in zip(blocks, self.proof.begins) if block[0] == "head"
        ]

    def pages(self):
        return self.proof.pages()

    def heads(self):
        leaves = self.proof.leaves()
        return [(title, page_number(leaves, begin)) for title, begin in self.titles]

    def note(self, number):
        if not is_within(number, 1, len(self.proof.notes)):
            raise NoNote("a note's number is a whole number from 1 to how many notes there are")
        strips = self.proof.strips
        leaves = self.proof.leaves()
        page = page_number(leaves, mark_place(strips, number))
        leaf = leaves[page - 1]
        at_its_foot = marks_in(strips, 0, leaf[0]) - leaf[1]
        return (page, page if number <= at_its_foot else page + 1)

    def costs(self):
        return (self.proof.break_cost(), self.proof.filling_cost())
