"""Papers: what a fresh book pays of every single loss up to a bound, and the first fault of that."""

from coverroll.cells import cells_of, loss_in, stretches_of
from coverroll.counts import Counts
from coverroll.errors import NoEntry, TooWide
from coverroll.losses import CENTS, is_amount
from coverroll.settling import strips_of

MOST_ROWS = 120


def is_bound(thing):
    return is_amount(thing) and thing >= 1


def claim_of(cover, cents):
    fresh = [0 for clause in cover.clauses]
    window = cover.window(fresh, cents)
    rest = cover.rest(fresh)
    upto = window[1] if rest is None else min(window[1], window[0] + rest[0])
    return (cover.name, window[0], upto)


def claims_of(book, loss):
    firm = [cover for cover in book.covers if not cover.waits and cover.asks(loss)]
    claims = [claim_of(cover, loss[CENTS]) for cover in firm]
    return [claim for claim in claims if claim[1] < claim[2]]


# The greatest loss of a row tells of all of them, as the strips and claims of a
# lesser one are their beginning.
def row_of(book, cell, lo, hi):
    loss = loss_in(book, cell, hi)
    return (cell, lo, hi, strips_of(book, Counts(), loss), claims_of(book, loss))


def paper_of(book, bound):
    if not is_bound(bound):
        raise NoEntry("a bound is a whole number of cents from 1 to 10**12 - 1")
    cells = cells_of(book)
    stretches = stretches_of(book, bound)
    if len(cells) * len(stretches) > MOST_ROWS:
        raise TooWide("the paper would have more than 120 rows")
    rows = []
    for cell in cells:
        rows.extend([row_of(book, cell, lo, hi) for lo, hi in stretches])
    return rows


def first_double(claims):
    doubles = []
    for k, claim in enumerate(claims):
        for other in claims[:k]:
            cent = max(claim[1], other[1])
            if cent < min(claim[2], other[2]):
                doubles.append(cent)
    return min(doubles, default=None)


def first_gap(strips, first, upto):
    gaps = []
    for lo, hi, name, k in strips:
        cent = max(lo, first)
        if k != -1 and cent < min(hi, upto):
            gaps.append(cent)
    return min(gaps, default=None)


# A loss has the fault as soon as it has the cent, but a row's losses begin at lo.
def fault_at(row, word, cent):
    return (max(row[1], cent + 1), word, cent, row[0])


def faults_of(row, first, upto):
    faults = []
    double = first_double(row[4])
    if double is not None:
        faults.append(fault_at(row, "double", double))
    gap = first_gap(row[3], first, upto)
    if gap is not None:
        faults.append(fault_at(row, "gap", gap))
    return faults


# At like cents `double` goes ahead of `gap`, as it does among words; of several
# alike the first one is the least.
def first_fault(rows, first, upto):
    faults = []
    for row in rows:
        faults.extend(faults_of(row, first, upto))
    return min(faults, key=lambda fault: fault[:2], default=None)
