"""Clauses: own shares, layers and limits, and by what they count."""

from coverroll.cents import show_cents
from coverroll.errors import NoClause
from coverroll.losses import DAY, EVENT, NUMBER, THING, is_amount, year_of

WAYS = ("event", "thing", "year", "loss")


def checked_amount(thing):
    if not is_amount(thing):
        raise NoClause("the amounts of a clause are whole numbers of cents from 0 to 10**12 - 1")
    return thing


# A count's bound as a cent of a loss, where the loss has a cent so low and so high.
def cent_at(bound, count, cents):
    return min(max(bound - count, 0), cents)


class Clause:
    def __init__(self, by):
        if not isinstance(by, str) or by not in WAYS:
            raise NoClause("a clause counts by event, thing, year or loss")
        self.by = by

    def key(self, loss):
        if self.by == "event":
            return loss[EVENT]
        if self.by == "thing":
            return loss[THING]
        if self.by == "year":
            return year_of(loss[DAY])
        return loss[NUMBER]

    def span(self, count, cents):
        return (0, cents)

    def room(self, paid):
        return None


class Own(Clause):
    def __init__(self, by, cents):
        Clause.__init__(self, by)
        self.cents = checked_amount(cents)

    def span(self, count, cents):
        return (cent_at(self.cents, count, cents), cents)

    def words(self):
        return ["own", self.by, show_cents(self.cents)]


class Layer(Clause):
    def __init__(self, by, first, upto):
        Clause.__init__(self, by)
        self.first = checked_amount(first)
        self.upto = checked_amount(upto)
        if not first < upto:
            raise NoClause("the first bound of a layer is less than the other one")

    def span(self, count, cents):
        return (cent_at(self.first, count, cents), cent_at(self.upto, count, cents))

    def words(self):
        return ["layer", self.by, show_cents(self.first), show_cents(self.upto)]


class Limit(Clause):
    def __init__(self, by, most):
        Clause.__init__(self, by)
        self.most = checked_amount(most)

    def room(self, paid):
        return max(self.most - paid, 0)

    def words(self):
        return ["limit", self.by, show_cents(self.most)]
