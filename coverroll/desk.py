"""A desk: told rows of words, it keeps a tower of books and answers by texts."""

from coverroll.answers import NOTHING, show_bearers, show_ends, show_fault, show_path, show_pieces, show_strips
from coverroll.cents import read_cents, show_cents, writes_whole
from coverroll.errors import NoAmount, NoRow, NotTold
from coverroll.finals import final_of, path_of, sheet_of
from coverroll.papers import first_fault, paper_of
from coverroll.texts import read_book
from coverroll.towers import Tower, check_books

MOST_NUMBER_FIGURES = 10
MOST_CENT_FIGURES = 12

# The words behind the first one, by what is written there.
FORMS = {
    "loss": ("number", "number", "word", "word", "word", "amount"),
    "back": ("number", "number", "word", "amount"),
    "close": ("number",),
    "foretell": ("number", "word", "word", "word", "amount"),
    "strips": ("number", "number"),
    "stands": ("number", "number"),
    "bears": ("number", "number"),
    "gave": ("number", "number"),
    "over": ("number", "number"),
    "final": ("number",),
    "sheet": (),
    "path": ("number", "cent"),
    "look": ("amount", "amount", "amount"),
}


def whole_of(word, most_figures):
    if not writes_whole(word, most_figures):
        raise NoRow("a number is written by figures, without a nought ahead")
    return int(word)


def amount_of(word):
    try:
        return read_cents(word)
    except NoAmount:
        raise NoRow("an amount is a whole part, a point and two figures") from None


def value_of(form, word):
    if form == "number":
        return whole_of(word, MOST_NUMBER_FIGURES)
    if form == "cent":
        return whole_of(word, MOST_CENT_FIGURES)
    if form == "amount":
        return amount_of(word)
    return word


def values_of(words):
    if words[0] not in FORMS or len(words) != len(FORMS[words[0]]) + 1:
        raise NoRow("no row of the desk has this form")
    return [value_of(form, word) for form, word in zip(FORMS[words[0]], words[1:])]


def show_numbers(numbers):
    return " ".join([str(number) for number in numbers]) if numbers else NOTHING


def show_of_row(tower, word, r, number):
    if word == "strips":
        return show_strips(tower.strips(r, number))
    if word == "stands":
        return show_cents(tower.stands(r, number))
    if word == "bears":
        return show_bearers(tower.bears(r, number))
    if word == "gave":
        return show_pieces(tower.gave(r, number))
    return show_cents(tower.over(r, number))


def show_way(tower, number, cent):
    if cent >= tower.strips(0, number)[-1][1]:
        raise NotTold("the loss has no such cent")
    return show_path(path_of(tower, number, cent))


def show_look(book, bound, first, upto):
    if first > upto:
        raise NoRow("the wish of a look ends below its first cent")
    return show_fault(first_fault(paper_of(book, bound), first, upto))


class Desk:
    def __init__(self, books):
        check_books(books)
        read = [read_book(rows) for rows in books]
        self.book = read[0]
        self.tower = Tower(read)

    def say(self, row):
        if not isinstance(row, str):
            raise NoRow("a row is a text")
        words = row.split(" ")
        values = values_of(words)
        if words[0] in ("loss", "back", "close", "foretell"):
            return self.do_row(words[0], values)
        return self.ask_row(words[0], values)

    def do_row(self, word, values):
        if word == "loss":
            self.tower.loss(values[0], values[1], values[2], values[3], values[4], values[5])
            return "ok"
        if word == "back":
            self.tower.back(values[0], values[1], values[2], values[3])
            return "ok"
        if word == "close":
            return show_numbers(self.tower.close(values[0]))
        return show_strips(self.tower.foretell([tuple(values)])[0])

    def ask_row(self, word, values):
        if word == "final":
            return show_ends(final_of(self.tower, values[0]))
        if word == "sheet":
            return show_ends(sheet_of(self.tower))
        if word == "path":
            return show_way(self.tower, values[0], values[1])
        if word == "look":
            return show_look(self.book, values[0], values[1], values[2])
        return show_of_row(self.tower, word, values[0], values[1])
