"""A ledger: losses and what is taken back, settled by days, and who bears what stands."""

from coverroll.counts import Counts
from coverroll.days import Days
from coverroll.errors import NoEntry
from coverroll.losses import CENTS, EVENT, NUMBER, is_amount, is_day, is_event, is_number, loss_of
from coverroll.rolls import LOSS_RANK, check_free, check_told, foretold_strips, opens_close
from coverroll.settling import paid_by, settle
from coverroll.shares import borne_by
from coverroll.stacks import taken_from

BACK_RANK = 1
BACK_CENTS = 3


def back_of(number, day, event, cents):
    if not is_number(number) or not is_day(day) or not is_event(event):
        raise NoEntry("a taking back has a number, a day and an event as a loss has them")
    if not is_amount(cents) or cents < 1:
        raise NoEntry("the cents that are taken back are a whole number from 1 to 10**12 - 1")
    return (number, day, event, cents)


class Ledger:
    def __init__(self, book):
        self.book = book
        self.counts = Counts()
        self.days = Days()
        self.closed = None
        self.order = []
        self.loss_rows = {}
        self.back_rows = {}
        self.outcomes = {}
        self.bases = {}
        self.paid = {}
        self.stacks = {}
        self.left = {}
        self.findings = {}

    def loss(self, number, day, event, thing, cause, cents):
        row = loss_of(number, day, event, thing, cause, cents)
        check_free(self.days, self.closed, number, day)
        self.days.put(day, LOSS_RANK, number, row)

    def back(self, number, day, event, cents):
        row = back_of(number, day, event, cents)
        check_free(self.days, self.closed, number, day)
        self.days.put(day, BACK_RANK, number, row)

    def close(self, day):
        if not opens_close(self.closed, day):
            return []
        self.closed = day
        numbers = []
        for due in self.days.up_to(day):
            if due[1] == LOSS_RANK:
                self.settle_loss(due[3])
            else:
                self.take_back(due[3])
            numbers.append(due[2])
        self.order.extend(numbers)
        return numbers

    def settle_loss(self, row):
        number = row[NUMBER]
        strips = settle(self.book, self.counts, row)
        self.loss_rows[number] = row
        self.outcomes[number] = strips
        self.left[number] = row[CENTS]
        self.stacks.setdefault(row[EVENT], []).append(number)
        self.number_paid_cents(row, strips)

    # The numbers of an event's paid cents go on from loss to loss, whatever was
    # taken back between them.
    def number_paid_cents(self, row, strips):
        paid = self.paid.get(row[EVENT], {})
        self.bases[row[NUMBER]] = paid
        self.paid[row[EVENT]] = dict(paid)
        for cover in self.book.covers:
            so_far = paid.get(cover.name, 0)
            self.paid[row[EVENT]][cover.name] = so_far + paid_by(cover.name, strips)

    def take_back(self, row):
        stack = [(number, self.left[number]) for number in self.stacks.get(row[EVENT], [])]
        finding = taken_from(stack, row[BACK_CENTS])
        for number, lo, hi in finding[0]:
            self.left[number] = lo
        self.back_rows[row[NUMBER]] = row
        self.findings[row[NUMBER]] = finding

    def handled(self):
        return list(self.order)

    def settled(self):
        return list(self.loss_rows.values())

    def backs(self):
        return list(self.back_rows.values())

    def strips(self, number):
        check_told(self.outcomes, number)
        return list(self.outcomes[number])

    def stands(self, number):
        check_told(self.left, number)
        return self.left[number]

    def bears(self, number, lo=0, hi=None):
        check_told(self.outcomes, number)
        upto = self.left[number] if hi is None else hi
        return borne_by(self.book, self.outcomes[number], self.bases[number], lo, upto)

    def gave(self, number):
        check_told(self.findings, number)
        return list(self.findings[number][0])

    def over(self, number):
        check_told(self.findings, number)
        return self.findings[number][1]

    def foretell(self, rows):
        return foretold_strips(self.book, self.counts, self.closed, rows)
