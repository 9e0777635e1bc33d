"""Conditions: of which losses a cover is asked."""

from coverroll.cents import show_cents
from coverroll.losses import CAUSE, CENTS, DAY, THING

RANK_OF_SOME = 1
RANK_OF_ALL = 2
RANK_OF_OTHERS = 3


# Without brackets a not, and an all, would take only the first piece of a part
# that binds no closer than they do.
def words_within(part, highest_in_brackets):
    if part.rank() <= highest_in_brackets:
        return ["("] + part.words() + [")"]
    return part.words()


def words_with(several, between, highest_in_brackets):
    told = []
    for k, part in enumerate(several):
        if k > 0:
            told.append(between)
        told.extend(words_within(part, highest_in_brackets))
    return told


def marks_with(several):
    told = []
    for part in several:
        told.extend(part.marks())
    return told


class Condition:
    def holds(self, loss):
        return True

    def words(self):
        return ["always"]

    def rank(self):
        return RANK_OF_OTHERS

    def marks(self):
        return []


class CauseIs(Condition):
    def __init__(self, name):
        self.name = name

    def holds(self, loss):
        return loss[CAUSE] == self.name

    def words(self):
        return ["cause", self.name]

    def marks(self):
        return [("cause", self.name)]


class ThingIs(Condition):
    def __init__(self, name):
        self.name = name

    def holds(self, loss):
        return loss[THING] == self.name

    def words(self):
        return ["thing", self.name]

    def marks(self):
        return [("thing", self.name)]


class DaysIn(Condition):
    def __init__(self, first, last):
        self.first = first
        self.last = last

    def holds(self, loss):
        return self.first <= loss[DAY] <= self.last

    def words(self):
        return ["days", str(self.first), str(self.last)]

    def marks(self):
        return [("day", self.first), ("day", self.last + 1)]


class Over(Condition):
    def __init__(self, cents):
        self.cents = cents

    def holds(self, loss):
        return loss[CENTS] > self.cents

    def words(self):
        return ["over", show_cents(self.cents)]

    def marks(self):
        return [("cents", self.cents)]


class Not(Condition):
    def __init__(self, part):
        self.part = part

    def holds(self, loss):
        return not self.part.holds(loss)

    def words(self):
        return ["not"] + words_within(self.part, RANK_OF_ALL)

    def marks(self):
        return self.part.marks()


class All(Condition):
    def __init__(self, several):
        self.several = list(several)

    def holds(self, loss):
        for part in self.several:
            if not part.holds(loss):
                return False
        return True

    def words(self):
        return words_with(self.several, "and", RANK_OF_ALL)

    def rank(self):
        return RANK_OF_ALL

    def marks(self):
        return marks_with(self.several)


class Some(Condition):
    def __init__(self, several):
        self.several = list(several)

    def holds(self, loss):
        for part in self.several:
            if part.holds(loss):
                return True
        return False

    def words(self):
        return words_with(self.several, "or", RANK_OF_SOME)

    def rank(self):
        return RANK_OF_SOME

    def marks(self):
        return marks_with(self.several)
