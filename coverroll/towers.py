"""A tower: rows of books, of which each one covers what the houses of the row above bear."""

from coverroll.cents import is_whole
from coverroll.errors import NoBook, NoEntry, NotTold
from coverroll.ledgers import Ledger
from coverroll.losses import CAUSE, CENTS, DAY, EVENT, MOST_NAMES, NUMBER, is_event, is_number
from coverroll.rolls import check_told, foretold_losses

MOST_BOOKS = 4


def by_house(rows):
    borne = {}
    for house, name, k, cents in rows:
        if house != "":
            borne[house] = borne.get(house, 0) + cents
    return [(house, borne[house]) for house in sorted(borne)]


def by_number(rows):
    kept = {}
    for row in rows:
        kept[row[NUMBER]] = row
    return kept


def check_books(books):
    if not isinstance(books, list) or len(books) < 1 or len(books) > MOST_BOOKS:
        raise NoBook("a tower has a list of one to four books")


class Tower:
    def __init__(self, books):
        check_books(books)
        self.ledgers = [Ledger(book) for book in books]
        self.origins = [{} for book in books]
        self.made = [{} for book in books]

    # Each row that follows puts one name to an event, and the last one must still
    # have an event.
    def check_event(self, event):
        if is_event(event) and len(event.split(".")) + len(self.ledgers) - 1 > MOST_NAMES:
            raise NoEntry("the event has too many names for a tower of so many rows")

    def loss(self, number, day, event, thing, cause, cents):
        self.check_event(event)
        self.ledgers[0].loss(number, day, event, thing, cause, cents)

    def back(self, number, day, event, cents):
        self.check_event(event)
        self.ledgers[0].back(number, day, event, cents)

    def foretell(self, rows):
        for loss in foretold_losses(rows):
            self.check_event(loss[EVENT])
        return self.ledgers[0].foretell(rows)

    def close(self, day):
        numbers = self.ledgers[0].close(day)
        settled = numbers
        for r in range(1, len(self.ledgers)):
            self.hand_on(r - 1, settled)
            settled = self.ledgers[r].close(day)
        return numbers

    def hand_on(self, r, numbers):
        losses = by_number(self.ledgers[r].settled())
        backs = by_number(self.ledgers[r].backs())
        for number in numbers:
            if number in losses:
                self.hand_on_loss(r, losses[number])
            else:
                self.hand_on_back(r, backs[number])

    # All cents are handed on, those too that a taking back of the same close
    # took: it is handed on behind the loss.
    def hand_on_loss(self, r, row):
        for house, cents in by_house(self.ledgers[r].bears(row[NUMBER], 0, row[CENTS])):
            number = self.new_number(r + 1, row[NUMBER], house)
            self.made[r][(row[NUMBER], house)] = number
            self.ledgers[r + 1].loss(number, row[DAY], row[EVENT] + "." + house, house, row[CAUSE], cents)

    def hand_on_back(self, r, row):
        rows = []
        for number, lo, hi in self.ledgers[r].gave(row[NUMBER]):
            rows.extend(self.ledgers[r].bears(number, lo, hi))
        for house, cents in by_house(rows):
            number = self.new_number(r + 1, row[NUMBER], house)
            self.ledgers[r + 1].back(number, row[DAY], row[EVENT] + "." + house, cents)

    def new_number(self, r, number, house):
        made = len(self.origins[r])
        self.origins[r][made] = (number, house)
        return made

    def size(self):
        return len(self.ledgers)

    def ledger_of(self, r):
        if not is_whole(r) or r < 0 or r >= len(self.ledgers):
            raise NotTold("the tower has no such row")
        return self.ledgers[r]

    def losses(self, r):
        return self.ledger_of(r).settled()

    def backs(self, r):
        return self.ledger_of(r).backs()

    def strips(self, r, number):
        return self.ledger_of(r).strips(number)

    def stands(self, r, number):
        return self.ledger_of(r).stands(number)

    def bears(self, r, number, lo=0, hi=None):
        return self.ledger_of(r).bears(number, lo, hi)

    def gave(self, r, number):
        return self.ledger_of(r).gave(number)

    def over(self, r, number):
        return self.ledger_of(r).over(number)

    def origin(self, r, number):
        self.ledger_of(r)
        check_told(self.origins[r], number)
        return self.origins[r][number]

    def made_of(self, r, number, house):
        self.ledger_of(r)
        if not is_number(number) or (number, house) not in self.made[r]:
            raise NotTold("nothing was made of this loss for this house")
        return self.made[r][(number, house)]
