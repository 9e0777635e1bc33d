"""Cells: the losses that the conditions of a book can't tell apart, but by their cents."""

from coverroll.errors import TooWide
from coverroll.losses import LAST_DAY, LETTERS

MOST_CELLS = 120
ANY_OTHER = ""


def marked(marks, sort):
    return sorted(set([what for kind, what in marks if kind == sort]))


def marks_of(book):
    marks = []
    for cover in book.covers:
        marks.extend(cover.condition.marks())
    days = [day for day in marked(marks, "day") if 1 <= day <= LAST_DAY]
    return (marked(marks, "cause"), marked(marks, "thing"), days, marked(marks, "cents"))


# The names of one letter come first, then those of two, and so on, so there is
# no figure for nought, as there is in numbers.
def name_at(place):
    name = ""
    left = place + 1
    while left > 0:
        name = LETTERS[(left - 1) % len(LETTERS)] + name
        left = (left - 1) // len(LETTERS)
    return name


def another(names):
    taken = {}
    for name in names:
        taken[name] = True
    place = 0
    while name_at(place) in taken:
        place = place + 1
    return name_at(place)


def day_stretches(days):
    firsts = [0] + days
    lasts = [day - 1 for day in days] + [LAST_DAY]
    return list(zip(firsts, lasts))


def cells_of(book):
    marks = marks_of(book)
    if (len(marks[0]) + 1) * (len(marks[1]) + 1) * (len(marks[2]) + 1) > MOST_CELLS:
        raise TooWide("the conditions of the book make more than 120 cells")
    cells = []
    for cause in marks[0] + [ANY_OTHER]:
        for thing in marks[1] + [ANY_OTHER]:
            cells.extend([(cause, thing, first, last) for first, last in day_stretches(marks[2])])
    return cells


def stretches_of(book, bound):
    amounts = [amount for amount in marks_of(book)[3] if 1 <= amount < bound]
    firsts = [1] + [amount + 1 for amount in amounts]
    return list(zip(firsts, amounts + [bound]))


def loss_in(book, cell, cents):
    marks = marks_of(book)
    cause = another(marks[0]) if cell[0] == ANY_OTHER else cell[0]
    thing = another(marks[1]) if cell[1] == ANY_OTHER else cell[1]
    return (0, cell[2], "e", thing, cause, cents)
