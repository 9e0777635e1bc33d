"""A cover: what of a loss lies in the windows of its clauses, and what its limits leave."""

from coverroll.errors import NoCover
from coverroll.losses import is_name
from coverroll.turns import Deal

MOST_CLAUSES = 8
COVERED_ONE = "self"


def check_houses(houses):
    for k, house in enumerate(houses):
        if not is_name(house) or house in houses[:k]:
            raise NoCover("the houses of a cover are unlike names")


# The number of the first window that the cent is not in.
def first_without(spans, cent):
    for k, span in enumerate(spans):
        if cent < span[0] or cent >= span[1]:
            return k
    return -1


def bounds_of(spans, cents):
    bounds = [0, cents]
    for span in spans:
        bounds.extend(span)
    return sorted(set(bounds))


class Cover:
    def __init__(self, name, condition, clauses=None, houses=None, waits=False):
        if not is_name(name) or name == COVERED_ONE:
            raise NoCover("a cover has a name of one to eight small letters that is not self")
        self.name = name
        self.condition = condition
        self.clauses = [] if clauses is None else list(clauses)
        if len(self.clauses) > MOST_CLAUSES:
            raise NoCover("a cover has at most eight clauses")
        pairs = [(name, 1)] if houses is None else houses
        self.houses = [pair[0] for pair in pairs]
        check_houses(self.houses)
        self.deal = Deal([pair[1] for pair in pairs])
        self.waits = waits

    def asks(self, loss):
        return self.condition.holds(loss)

    def spans(self, counts, cents):
        return [clause.span(counts[k], cents) for k, clause in enumerate(self.clauses)]

    def window(self, counts, cents):
        spans = self.spans(counts, cents)
        lo = max([0] + [span[0] for span in spans])
        hi = min([cents] + [span[1] for span in spans])
        return (lo, max(lo, hi))

    # Between two neighbouring bounds all cents lie in the same windows.
    def parts(self, counts, cents):
        spans = self.spans(counts, cents)
        bounds = bounds_of(spans, cents)
        told = []
        for lo, hi in zip(bounds, bounds[1:]):
            k = first_without(spans, lo)
            if told and told[-1][2] == k:
                lo = told.pop()[0]
            told.append((lo, hi, k))
        return told

    def rest(self, counts):
        least = None
        for k, clause in enumerate(self.clauses):
            room = clause.room(counts[k])
            if room is not None and (least is None or room < least[0]):
                least = (room, k)
        return least
