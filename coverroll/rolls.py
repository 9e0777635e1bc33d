"""A roll: losses that come by days, and are settled at the close of their day."""

from coverroll.counts import Counts
from coverroll.days import Days
from coverroll.errors import Late, NoEntry, NotTold, Twice
from coverroll.losses import DAY, NUMBER, is_day, is_number, loss_of
from coverroll.settling import settle

LOSS_RANK = 0
FORETOLD_THINGS = 5


def check_open(closed, day):
    if closed is not None and day <= closed:
        raise Late(closed)


def check_free(days, closed, number, day):
    if days.has_number(number):
        raise Twice(number)
    check_open(closed, day)


# Whether there is anything left to close; a day that is closed stays as it is.
def opens_close(closed, day):
    if not is_day(day):
        raise NoEntry("a day is a whole number from 0 to 10**6")
    return closed is None or day > closed


# True would be found under 1, as Python counts it among the ints.
def check_told(kept, number):
    if not is_number(number) or number not in kept:
        raise NotTold("nothing of this number was settled")


def foretold_loss(number, row):
    if not isinstance(row, (list, tuple)) or len(row) != FORETOLD_THINGS:
        raise NoEntry("a loss is foretold as (day, event, thing, cause, cents)")
    loss = loss_of(0, row[0], row[1], row[2], row[3], row[4])
    return (number,) + loss[1:]


# No loss that was entered has a number below 0, so for clauses by loss each one
# that is foretold is a loss by itself.
def foretold_losses(rows):
    losses = [foretold_loss(-1 - k, row) for k, row in enumerate(rows)]
    for one, later in zip(losses, losses[1:]):
        if later[DAY] < one[DAY]:
            raise NoEntry("the days of foretold losses don't fall")
    return losses


def foretold_strips(book, counts, closed, rows):
    losses = foretold_losses(rows)
    for loss in losses:
        check_open(closed, loss[DAY])
    trial = counts.copied()
    return [settle(book, trial, loss) for loss in losses]


class Roll:
    def __init__(self, book):
        self.book = book
        self.counts = Counts()
        self.days = Days()
        self.closed = None
        self.loss_rows = []
        self.outcomes = {}

    def enter(self, number, day, event, thing, cause, cents):
        loss = loss_of(number, day, event, thing, cause, cents)
        check_free(self.days, self.closed, number, day)
        self.days.put(day, LOSS_RANK, number, loss)

    def close(self, day):
        if not opens_close(self.closed, day):
            return []
        self.closed = day
        losses = [entry[3] for entry in self.days.up_to(day)]
        for loss in losses:
            self.outcomes[loss[NUMBER]] = settle(self.book, self.counts, loss)
        self.loss_rows.extend(losses)
        return [loss[NUMBER] for loss in losses]

    def told(self, number):
        check_told(self.outcomes, number)
        return list(self.outcomes[number])

    def settled(self):
        return list(self.loss_rows)

    def foretell(self, rows):
        return foretold_strips(self.book, self.counts, self.closed, rows)
