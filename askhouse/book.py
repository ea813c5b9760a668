"""A book that keeps what was noted of words."""

from askhouse.errors import SaidOtherwise
from askhouse.house import check_doors, check_word


class Book:
    def __init__(self, doors):
        check_doors(doors)
        self.doors = doors
        self.noted = {}

    def check_note(self, word, lit):
        before = self.said(word)
        if before is not None and before != lit:
            raise SaidOtherwise(f"{before} was noted of this word")

    def note(self, word, lit):
        self.check_note(word, lit)
        # A tuple of its own, so that the caller's list may be changed later. A
        # word that is there already keeps its place.
        self.noted[tuple(word)] = lit

    def said(self, word):
        check_word(self.doors, word)
        return self.noted.get(tuple(word))

    def all_said(self):
        return [(list(word), lit) for word, lit in self.noted.items()]
