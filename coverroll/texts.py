"""Books told by rows of words, and shown as such rows."""

from coverroll.books import MOST_COVERS, Book
from coverroll.cents import read_cents, writes_whole
from coverroll.clauses import Layer, Limit, Own
from coverroll.conditions import Condition
from coverroll.covers import Cover
from coverroll.errors import CoverError, NoRow, NoText
from coverroll.wording import read_condition, show_condition

MOST_WEIGHT_FIGURES = 3


# A cover as far as its rows have told it.
class Draft:
    def __init__(self, name):
        self.name = name
        self.condition = None
        self.clauses = []
        self.shares = None
        self.waits = False

    def as_cover(self):
        condition = Condition() if self.condition is None else self.condition
        return Cover(self.name, condition, self.clauses, self.shares, self.waits)


def new_draft(drafts, words):
    if len(words) != 2 or len(drafts) == MOST_COVERS:
        raise NoRow("a cover begins with its name, and there are at most eight")
    if words[1] in [draft.name for draft in drafts]:
        raise NoRow("a cover of this name was told ahead")
    return Draft(words[1])


def take_when(draft, words):
    if draft.condition is not None:
        raise NoRow("a cover has one condition")
    draft.condition = read_condition(" ".join(words[1:]))


def weight_of(word):
    if not writes_whole(word, MOST_WEIGHT_FIGURES):
        raise NoRow("a weight is written by one to three figures")
    return int(word)


def take_share(draft, words):
    if draft.shares is not None or len(words) % 2 == 0:
        raise NoRow("the houses of a cover are told once, each with its weight")
    draft.shares = [(house, weight_of(weight)) for house, weight in zip(words[1::2], words[2::2])]


def take_waits(draft, words):
    if draft.waits or len(words) != 1:
        raise NoRow("that a cover waits is told once, by one word")
    draft.waits = True


def clause_of(words):
    if len(words) == 3 and words[0] == "own":
        return Own(words[1], read_cents(words[2]))
    if len(words) == 3 and words[0] == "limit":
        return Limit(words[1], read_cents(words[2]))
    if len(words) == 4 and words[0] == "layer":
        return Layer(words[1], read_cents(words[2]), read_cents(words[3]))
    raise NoRow("no row of a book has this form")


def take_of_cover(draft, words):
    if words[0] == "when":
        take_when(draft, words)
    elif words[0] == "share":
        take_share(draft, words)
    elif words[0] == "waits":
        take_waits(draft, words)
    else:
        draft.clauses.append(clause_of(words))


# The cover is made at each of its rows, so that what it refuses is refused at
# the row that brought it.
def take_row(drafts, row):
    if not isinstance(row, str):
        raise NoRow("a row is a text")
    words = row.split(" ")
    if words[0] == "cover":
        drafts.append(new_draft(drafts, words))
    elif drafts:
        take_of_cover(drafts[-1], words)
    else:
        raise NoRow("a book begins with a cover")
    drafts[-1].as_cover()


def read_book(rows):
    if not isinstance(rows, list):
        raise NoText(0)
    drafts = []
    for at, row in enumerate(rows):
        try:
            take_row(drafts, row)
        except CoverError:
            raise NoText(at) from None
    return Book([draft.as_cover() for draft in drafts])


def show_share(cover):
    words = ["share"]
    for house, weight in zip(cover.houses, cover.deal.weights):
        words.extend([house, str(weight)])
    return " ".join(words)


def show_cover(cover):
    rows = ["cover " + cover.name]
    condition = show_condition(cover.condition)
    if condition != "always":
        rows.append("when " + condition)
    rows.extend([" ".join(clause.words()) for clause in cover.clauses])
    if cover.houses != [cover.name] or cover.deal.weights != [1]:
        rows.append(show_share(cover))
    if cover.waits:
        rows.append("waits")
    return rows


def show_book(book):
    rows = []
    for cover in book.covers:
        rows.extend(show_cover(cover))
    return rows
