"""One loss in a book: who pays which of its cents, and what is counted of it."""

from coverroll.clauses import Limit
from coverroll.losses import CENTS
from coverroll.runs import cut_out, cut_within, lowest_of


def numbers_of(cover, counts, loss):
    return [counts.have(cover.name, k, clause.key(loss)) for k, clause in enumerate(cover.clauses)]


def asked_of(book, loss):
    return [cover for cover in book.asking if cover.asks(loss)]


def paid_runs(cover, numbers, cents, unpaid):
    window = cover.window(numbers, cents)
    rest = cover.rest(numbers)
    most = None if rest is None else rest[0]
    return lowest_of(cut_within(unpaid, window[0], window[1]), most)


# What is left unpaid of the part that lies in all windows was shut out by the
# limit of which the least was left. (Without limits nothing is left of it.)
def borne_strips(cover, numbers, cents, unpaid):
    rest = cover.rest(numbers)
    strips = []
    for lo, hi, k in cover.parts(numbers, cents):
        clause = rest[1] if k == -1 and rest is not None else k
        strips.extend([(run[0], run[1], cover.name, clause) for run in cut_within(unpaid, lo, hi)])
    return strips


# Neighbours are unlike by themselves: what one cover pays, and what is unpaid of
# one part, are runs that lie apart, and no two parts next to each other are alike.
def strips_of(book, counts, loss):
    cents = loss[CENTS]
    asked = asked_of(book, loss)
    if not asked:
        return [(0, cents, "", 0)]
    unpaid = [(0, cents)]
    strips = []
    for cover in asked:
        paid = paid_runs(cover, numbers_of(cover, counts, loss), cents, unpaid)
        strips.extend([(run[0], run[1], cover.name, -1) for run in paid])
        unpaid = cut_out(unpaid, paid)
    first = asked[0]
    strips.extend(borne_strips(first, numbers_of(first, counts, loss), cents, unpaid))
    return sorted(strips)


def paid_by(name, strips):
    return sum([hi - lo for lo, hi, payer, k in strips if payer == name and k == -1])


def count_for(cover, counts, loss, paid):
    for k, clause in enumerate(cover.clauses):
        counted = paid if isinstance(clause, Limit) else loss[CENTS]
        counts.add(cover.name, k, clause.key(loss), counted)


def settle(book, counts, loss):
    strips = strips_of(book, counts, loss)
    for cover in asked_of(book, loss):
        count_for(cover, counts, loss, paid_by(cover.name, strips))
    return strips
