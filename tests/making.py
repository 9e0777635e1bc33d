"""Books, losses and takings back for the tests, and the tests' own reckoning of them, cent by cent."""

import functools
import math
import unittest
from collections import Counter
from fractions import Fraction

from coverroll.clauses import Layer, Limit, Own
from coverroll.conditions import All, CauseIs, Condition, DaysIn, Not, Over, Some, ThingIs
from coverroll.covers import Cover
from coverroll.errors import Late, Twice
from coverroll.towers import Tower

WAYS = ("event", "thing", "year", "loss")

# What is none by [2], for each thing that a loss or a taking back is made of.
NO_NUMBERS = (-1, 10**9 + 1, True, False, "1", None, 1.0, [1])
NO_DAYS = (-1, 10**6 + 1, True, False, "1", None, 1.0, (1,))
NO_EVENTS = ("", "Storm", "storm.", ".storm", "storm..a", "a.b.c.d.e", "stormstor", "storm a", "storm1", 5, None, ["storm"])
NO_NAMES = ("", "Roof", "roofroofr", "roof.a", "roof ", "r1", 5, None, True, ["roof"])
NO_CENTS = (0, -1, 10**12, True, "5", None, 5.0, [5])
SPOILT = (NO_NUMBERS, NO_DAYS, NO_EVENTS, NO_NAMES, NO_NAMES, NO_CENTS)


class Case(unittest.TestCase):
    def refused(self, error, call, *handed, value=None):
        """The refusal is this very class, and keeps this value."""
        with self.assertRaises(error) as caught:
            call(*handed)
        self.assertIs(caught.exception.__class__, error)
        if error is Twice:
            self.assertEqual(caught.exception.number, value)
        if error is Late:
            self.assertEqual(caught.exception.day, value)


def loss(cents, number=0, day=0, event="storm", thing="roof", cause="hail"):
    return (number, day, event, thing, cause, cents)


def cover(name, clauses=None, condition=None, waits=False, houses=None):
    return Cover(name, condition or Condition(), clauses, houses, waits)


def key_of(by, one):
    return {"event": one[2], "thing": one[3], "year": one[1] // 365, "loss": one[0]}[by]


def have(kept, one_cover, k, one):
    return kept.get((one_cover.name, k, key_of(one_cover.clauses[k].by, one)), 0)


def outside(clause, number):
    """Whether a ground clause leaves the cent of this number out."""
    if isinstance(clause, Own):
        return number < clause.cents
    return isinstance(clause, Layer) and not clause.first <= number < clause.upto


def asked_of(covers, one):
    asked = [c for c in covers if c.condition.holds(one)]
    return [c for c in asked if not c.waits] + [c for c in asked if c.waits]


def lefts_of(one_cover, kept, one):
    return [(c.most - have(kept, one_cover, k, one), k) for k, c in enumerate(one_cover.clauses) if isinstance(c, Limit)]


def by_the_rule(covers, kept, one):
    """[6], cent by cent: of each cent the name and k that its strip has."""
    asked = asked_of(covers, one)
    told = [None] * one[5]
    for payer in asked:
        left = min(lefts_of(payer, kept, one), default=(one[5], 0))[0]
        for cent in range(one[5]):
            numbers = [have(kept, payer, k, one) + cent for k in range(len(payer.clauses))]
            within = not any(outside(clause, number) for clause, number in zip(payer.clauses, numbers))
            if told[cent] is None and within and left > 0:
                told[cent] = (payer.name, -1)
                left -= 1
    for cent in range(one[5]):
        if told[cent] is None:
            told[cent] = borne_by_the_rule(asked, kept, one, cent)
    return told


def borne_by_the_rule(asked, kept, one, cent):
    if not asked:
        return ("", 0)
    first = asked[0]
    for k, clause in enumerate(first.clauses):
        if outside(clause, have(kept, first, k, one) + cent):
            return (first.name, k)
    return (first.name, min(lefts_of(first, kept, one))[1])


def count_by_the_rule(covers, kept, one, cents):
    for asked in asked_of(covers, one):
        for k, clause in enumerate(asked.clauses):
            counted = cents.count((asked.name, -1)) if isinstance(clause, Limit) else one[5]
            place = (asked.name, k, key_of(clause.by, one))
            kept[place] = kept.get(place, 0) + counted


def by_cents(strips):
    return [(name, k) for lo, hi, name, k in strips for cent in range(lo, hi)]


def strips_from(cents):
    """Strips, of the name and k of each cent."""
    told = []
    for cent, bears in enumerate(cents):
        lo = told.pop()[0] if told and told[-1][2:] == bears else cent
        told.append((lo, cent + 1) + bears)
    return told


@functools.lru_cache(maxsize=None)
def wheel_of(weights):
    """[12]: the places of the turns."""
    total, dealt, wheel = sum(weights), [0] * len(weights), []
    for turn in range(total):
        may = [k for k, w in enumerate(weights) if dealt[k] * total < w * (turn + 1)]
        place = min(may, key=lambda k: math.ceil(Fraction((dealt[k] + 1) * total, weights[k])))
        dealt[place] += 1
        wheel.append(place)
    return wheel


def house_of(one_cover, number):
    """[61]: the house that has this cent of those that the cover pays in an event."""
    wheel = wheel_of(tuple(one_cover.deal.weights))
    return one_cover.houses[wheel[number % len(wheel)]]


def bearer_of(one_cover, number):
    house = house_of(one_cover, number)
    if house == "self":
        return ("", one_cover.name, len(one_cover.clauses))
    return (house, one_cover.name, -1)


def summed(bearers):
    """[62], of the bearers of single cents."""
    return sorted(key + (cents,) for key, cents in Counter(bearers).items())


def spoilt_losses(one):
    """The loss with each of its six things spoilt by itself."""
    for place, things in enumerate(SPOILT):
        for thing in things:
            yield one[:place] + (thing,) + one[place + 1:]


def spoilt_backs(one):
    for place, things in enumerate((NO_NUMBERS, NO_DAYS, NO_EVENTS, NO_CENTS)):
        for thing in things:
            yield one[:place] + (thing,) + one[place + 1:]


class Reckoned:
    """What a ledger tells, of the covers of its book and of all rows that were settled (losses and takings back)."""

    def __init__(self, covers, rows):
        self.covers = {c.name: c for c in covers}
        self.rows = sorted(rows, key=lambda row: (row[1], len(row) == 4, row[0]))
        self.strips, self.bearers, self.stacks, self.taken, self.over = {}, {}, {}, {}, {}
        self.kept, self.numbered = {}, Counter()
        for row in self.rows:
            if len(row) == 6:
                self.settle(covers, row)
            else:
                self.take(row)

    def settle(self, covers, row):
        cents = by_the_rule(covers, self.kept, row)
        count_by_the_rule(covers, self.kept, row, cents)
        self.strips[row[0]] = strips_from(cents)
        self.bearers[row[0]] = [self.bearer(row[2], name, k) for name, k in cents]
        self.stacks.setdefault(row[2], []).extend((row[0], cent) for cent in range(row[5]))

    def bearer(self, event, name, k):
        if k != -1:
            return ("", name, k)
        self.numbered[(event, name)] += 1
        return bearer_of(self.covers[name], self.numbered[(event, name)] - 1)

    def take(self, row):
        stack = self.stacks.get(row[2], [])
        self.taken[row[0]] = [stack.pop() for turn in range(min(row[3], len(stack)))]
        self.over[row[0]] = row[3] - len(self.taken[row[0]])

    def losses(self):
        return [row for row in self.rows if len(row) == 6]

    def backs(self):
        return [row for row in self.rows if len(row) == 4]

    def stands(self, number):
        return sum(entry[0] == number for stack in self.stacks.values() for entry in stack)

    def bears(self, number, lo=0, hi=None):
        return summed(self.bearers[number][lo:self.stands(number) if hi is None else hi])

    def gave(self, number):
        pieces = {}
        for one, cent in self.taken[number]:
            pieces.setdefault(one, []).append(cent)
        return [(one, min(cents), max(cents) + 1) for one, cents in pieces.items()]


class ReckonedTower:
    """What a tower tells, of the covers of its books and of all rows of row 0 that were settled."""

    def __init__(self, books, rows):
        self.rows, self.origins, self.made = [], [{}], []
        for covers in books:
            self.rows.append(Reckoned(covers, rows))
            rows = self.hand_on(self.rows[-1])

    def hand_on(self, row):
        rows, origins, made = [], {}, {}
        for one in row.rows:
            if len(one) == 6:
                houses = Counter(house for house, name, k in row.bearers[one[0]])
            else:
                houses = Counter(row.bearers[number][cent][0] for number, cent in row.taken[one[0]])
            for house in sorted(house for house in houses if house):
                number, event = len(rows), f"{one[2]}.{house}"
                origins[number] = (one[0], house)
                if len(one) == 6:
                    made[(one[0], house)] = number
                    rows.append((number, one[1], event, house, one[4], houses[house]))
                else:
                    rows.append((number, one[1], event, houses[house]))
        self.origins.append(origins)
        self.made.append(made)
        return rows

    def path(self, number, cent):
        steps = []
        for r, row in enumerate(self.rows):
            house, name, k = row.bearers[number][cent]
            steps.append((r, number, cent, house, name, k))
            if not house or r + 1 == len(self.rows):
                return steps
            cent = sum(one[0] == house for one in row.bearers[number][:cent])
            number = self.made[r][(number, house)]

    def end(self, number, cent):
        r, last, cent, house, name, k = self.path(number, cent)[-1]
        if house:
            return (r + 1, house)
        return (r, self.origins[r][last][1] if r else "")

    def ends(self, numbers):
        return summed(self.end(number, cent) for number in numbers for cent in range(self.rows[0].stands(number)))


def some_clause(chooser):
    by = chooser.choice(WAYS)
    a, b = sorted(chooser.sample(range(45), 2))
    kinds = [lambda: Own(by, a // 2), lambda: Layer(by, a // 3, 20 + b), lambda: Limit(by, b), lambda: Limit(by, a // 3)]
    return chooser.choice(kinds)()


def some_condition(chooser):
    several = [CauseIs("hail"), Not(CauseIs("fire")), ThingIs("roof"), DaysIn(0, 400), Over(9), Not(Over(20))]
    several += [Some([ThingIs("wall"), Over(5)]), All([CauseIs("hail"), Not(ThingIs("wall"))])]
    return chooser.choice([Condition()] * 8 + several)


def some_houses(chooser):
    """None, or one to four houses with their weights."""
    if chooser.random() < 0.2:
        return None
    houses = chooser.sample(("acme", "beta", "self", "carl", "b", "dd"), chooser.choice((1, 2, 2, 3, 4)))
    return [(house, chooser.choice((1, 1, 2, 3, 7))) for house in houses]


def some_cover(chooser, name, houses=None):
    clauses = [some_clause(chooser) for k in range(chooser.choice((0, 1, 1, 2, 2, 3, 4)))]
    return Cover(name, some_condition(chooser), clauses, houses, chooser.random() < 0.3)


def some_covers(chooser, many):
    """Covers of which some have several houses, `self` among them."""
    return [some_cover(chooser, name, some_houses(chooser)) for name in ("dd", "b", "cc", "a")[:many]]


def upper_cover(chooser, name):
    """A cover for a row from 1 on, where the things are the houses of the row above."""
    conditions = [ThingIs("acme"), Not(ThingIs("beta")), CauseIs("hail"), Over(5), Some([ThingIs("carl"), ThingIs("b")])]
    condition = chooser.choice([Condition()] * 3 + conditions)
    clauses = [some_clause(chooser) for k in range(chooser.choice((0, 0, 0, 1, 2)))]
    return Cover(name, condition, clauses, some_houses(chooser), chooser.random() < 0.3)


def some_towers(chooser, size):
    """The covers of each book of a tower."""
    books = [some_covers(chooser, chooser.randint(0, 4) or 2)]
    while len(books) < size:
        books.append([upper_cover(chooser, name) for name in ("up", "acme", "z")[:chooser.choice((0, 1, 2, 2, 2, 3, 3))]])
    return books


def some_loss(chooser, number, days):
    names = [chooser.choice(pair) for pair in (("storm", "flood", "storm"), ("roof", "wall"), ("hail", "fire"))]
    return loss(chooser.choice((1, 2, chooser.randint(1, 15), chooser.randint(1, 60))), number, chooser.choice(days), *names)


def some_rows(chooser, many, days, backs=0.3):
    """Losses and takings back of unlike numbers."""
    rows = []
    for number in chooser.sample(range(4 * many), many):
        one = some_loss(chooser, number, days)
        rows.append(one[:3] + (chooser.choice((1, 5, one[5], 3 * one[5])),) if chooser.random() < backs else one)
    return rows


def enter_rows(keeper, rows):
    """Enters losses and takings back into a ledger or a tower."""
    for row in rows:
        if len(row) == 6:
            keeper.loss(*row)
        else:
            keeper.back(*row)


def filled_tower(books, rows, closes=()):
    tower = Tower(books)
    enter_rows(tower, rows)
    for day in closes:
        tower.close(day)
    return tower
