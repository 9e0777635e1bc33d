"""A book: a row of covers, and the order in which they are asked."""

from coverroll.errors import NoBook, NotTold

MOST_COVERS = 8


class Book:
    def __init__(self, covers):
        if len(covers) > MOST_COVERS:
            raise NoBook("a book has at most eight covers")
        names = [cover.name for cover in covers]
        if len(set(names)) < len(names):
            raise NoBook("the covers of a book have unlike names")
        self.covers = list(covers)
        firm = [cover for cover in covers if not cover.waits]
        waiting = [cover for cover in covers if cover.waits]
        self.asking = firm + waiting

    def named(self, name):
        for cover in self.covers:
            if cover.name == name:
                return cover
        raise NotTold("the book has no cover of this name")
