"""[87]: right rows, and rows that are a paper."""

import random
import unittest

from coverroll.books import Book
from coverroll.cells import marks_of
from coverroll.checks import is_paper, is_row
from coverroll.clauses import Layer, Limit, Own
from coverroll.conditions import All, CauseIs, Condition, DaysIn, Not, Over, Some, ThingIs
from coverroll.papers import paper_of
from tests.making import by_the_rule, cover, some_clause, strips_from

LAST = 10**6
MOST = 10**12 - 1


def a_book():
    """Marks of two causes, one thing, two days and two amounts."""
    return Book([
        cover("low", [Own("loss", 3), Limit("year", 9)], Some([CauseIs("hail"), Over(20)])),
        cover("high", [Layer("event", 8, 25)], Not(All([ThingIs("roof"), DaysIn(100, 199)]))),
        cover("late", [Limit("loss", 4)], Some([CauseIs("fire"), Over(10)]), waits=True),
    ])


def with_cell(row, **changes):
    names = ("cause", "thing", "first", "last")
    return (tuple(changes.get(name, value) for name, value in zip(names, row[0])),) + row[1:]


def cut(row, lo, hi):
    """The row's losses from lo to hi cents (hi no more than the row's)."""
    strips = [(s, min(e, hi), name, k) for s, e, name, k in row[3] if s < hi]
    claims = [(name, x, min(y, hi)) for name, x, y in row[4] if x < hi]
    return (row[0], lo, hi, strips, claims)


def by_days(row, day):
    return [with_cell(row, last=day - 1), with_cell(row, first=day)]


def by_amounts(row, cents):
    return [cut(row, row[1], cents), cut(row, cents + 1, row[2])]


def by_strip(row, place, cent):
    lo, hi, name, k = row[3][place]
    return row[:3] + (row[3][:place] + [(lo, cent, name, k), (cent, hi, name, k)] + row[3][place + 1:], row[4])


def own_strips(book, row):
    """The strips and claims that the row must have, by the rule for one cent."""
    cause, thing, first = row[0][:3]
    marks = marks_of(book)
    one = (3, first, "x", thing or next(n for n in "uvwx" if n not in marks[1]),
        cause or next(n for n in "uvwx" if n not in marks[0]), row[2])
    claims = []
    for payer in book.covers:
        paid = [cent for cent, bears in enumerate(by_the_rule([payer], {}, one)) if bears[1] == -1]
        if paid and not payer.waits:
            claims.append((payer.name, paid[0], paid[-1] + 1))
    return by_the_rule(book.covers, {}, one), claims


def own_is_row(book, row):
    (cause, thing, first, last), lo, hi, strips, claims = row
    causes, things, days, amounts = marks_of(book)
    if cause not in causes + [""] or thing not in things + [""]:
        return False
    if first < 0 or last < first or last > LAST or lo < 1 or hi < lo or hi > MOST:
        return False
    if any(first < day <= last for day in days) or any(lo <= amount < hi for amount in amounts):
        return False
    cents, wanted = own_strips(book, row)
    if [s for s, e, name, k in strips] + [hi] != [0] + [e for s, e, name, k in strips] or any(s >= e for s, e, name, k in strips):
        return False
    told = [(name, k) for s, e, name, k in strips for cent in range(s, e)]
    return told == cents and sorted(claims) == sorted(wanted)


def own_is_paper(book, bound, rows):
    """Each loss of a day at which a row, or what is behind it, begins belongs to just one of the right rows."""
    if not all(own_is_row(book, row) for row in rows) or any(row[2] > bound for row in rows):
        return False
    days = {0, LAST} | {row[0][2] for row in rows} | {min(row[0][3] + 1, LAST) for row in rows}
    for cause in marks_of(book)[0] + [""]:
        for thing in marks_of(book)[1] + [""]:
            group = [row for row in rows if row[0][:2] == (cause, thing)]
            for day in days:
                there = [row for row in group if row[0][2] <= day <= row[0][3]]
                if any(sum(row[1] <= cents <= row[2] for row in there) != 1 for cents in range(1, bound + 1)):
                    return False
    return True


def some_book(chooser):
    conditions = [CauseIs("hail"), ThingIs("roof"), Over(9), Over(14), DaysIn(100, 199), Not(CauseIs("fire")), DaysIn(50, LAST)]
    conditions += [All([CauseIs("hail"), Over(4)]), Some([ThingIs("wall"), DaysIn(0, 0)])] + [Condition()] * 3
    covers = []
    for name in ("dd", "b", "cc")[:chooser.randint(0, 3)]:
        clauses = [some_clause(chooser) for k in range(chooser.randint(0, 3))]
        covers.append(cover(name, clauses, chooser.choice(conditions), chooser.random() < 0.25))
    return Book(covers)


def some_parting(chooser, rows):
    """The rows, some of them parted, with strips parted and claims in another order, in another order."""
    told = []
    for row in rows:
        days = (row[0][2] + 1, min(row[0][3], row[0][2] + 200))
        turn = chooser.randint(0, 3)
        if turn == 0 and row[1] < row[2]:
            told += by_amounts(row, chooser.randint(row[1], row[2] - 1))
        elif turn == 1 and days[0] <= days[1]:
            told += by_days(row, chooser.randint(*days))
        else:
            told.append(row)
    return [freer(chooser, row) for row in chooser.sample(told, len(told))]


def freer(chooser, row):
    for place in reversed(range(len(row[3]))):
        lo, hi = row[3][place][:2]
        if hi - lo > 1 and chooser.random() < 0.4:
            row = by_strip(row, place, chooser.randint(lo + 1, hi - 1))
    return row[:4] + (chooser.sample(row[4], len(row[4])),)


def spoilt(chooser, row):
    """The row with one small change somewhere."""
    cell, lo, hi, strips, claims = row
    one = chooser.choice((-1, 1))
    place = chooser.randrange(len(strips))
    s, e, name, k = strips[place]
    changed = chooser.choice([(s + one, e, name, k), (s, e + one, name, k), (s, e, chooser.choice(("dd", "b", "")), k),
        (s, e, name, k + one)])
    claim = claims[0] if claims else ("b", 0, 1)
    return chooser.choice([
        with_cell(row, cause=chooser.choice(("hail", "fire", "x", ""))),
        with_cell(row, thing=chooser.choice(("roof", "wall", "x", ""))),
        with_cell(row, first=cell[2] + one), with_cell(row, last=cell[3] + one), (cell, lo + one, hi, strips, claims),
        (cell, lo, hi + one, strips, claims), (cell, lo, hi, strips[:place] + [changed] + strips[place + 1:], claims),
        (cell, lo, hi, strips[:place] + strips[place + 1:], claims), (cell, lo, hi, strips, claims[1:]),
        (cell, lo, hi, strips, claims + [claim]), (cell, lo, hi, strips, [(claim[0], claim[1], claim[2] + one)] + claims[1:]),
    ])


class TestRow(unittest.TestCase):
    def setUp(self):
        self.book = a_book()
        self.rows = paper_of(self.book, 40)
        self.row = next(row for row in self.rows if row[0] == ("hail", "", 100, 199) and row[1] == 21)

    def test_the_row_that_is_spoilt_here(self):
        self.assertEqual(self.row[1:], (21, 40, [
            (0, 3, "late", -1), (3, 12, "low", -1), (12, 25, "high", -1), (25, 26, "late", -1), (26, 40, "low", 1),
        ], [("low", 3, 12), ("high", 8, 25)]))

    def right(self, row):
        self.assertIs(is_row(self.book, row), True)

    def wrong(self, *rows):
        for row in rows:
            self.assertIs(is_row(self.book, row), False, row)

    def test_those_of_the_paper(self):
        self.assertEqual(len(self.rows), 54)
        for row in self.rows:
            self.right(row)

    def test_causes_and_things(self):
        self.wrong(*[with_cell(self.row, cause=name) for name in ("rain", "hai", "hailhailhail", "roof")])
        self.wrong(*[with_cell(self.row, thing=name) for name in ("wall", "roo", "roofroofroof", "hail")])
        asked_alike = paper_of(Book([cover("low", condition=Some([CauseIs("hail"), Condition()]))]), 9)[0]
        book = Book([cover("low", condition=Some([CauseIs("hail"), ThingIs("roof"), Condition()]))])
        for name, good in (("hail", True), ("", True), ("rain", False), ("roof", False)):
            self.assertIs(is_row(book, with_cell(asked_alike, cause=name)), good)
        for name, good in (("roof", True), ("", True), ("wall", False), ("hail", False)):
            self.assertIs(is_row(book, with_cell(asked_alike, thing=name)), good)

    def test_days(self):
        book = Book([cover("low", condition=Some([DaysIn(100, 199), Condition()]))])
        row = paper_of(book, 9)[0]
        for first, last, good in (
            (0, 99, True), (0, 0, True), (99, 99, True), (100, 100, True), (100, 199, True), (150, 160, True), (200, LAST, True),
            (LAST, LAST, True), (0, 100, False), (99, 100, False), (199, 200, False), (100, 200, False),
            (0, LAST, False), (-1, 99, False),
            (-1, -1, False), (200, LAST + 1, False), (LAST + 1, LAST + 1, False), (99, 98, False), (150, 100, False),
            (-5, -9, False), (-10**40, 5, False),
        ):
            self.assertIs(is_row(book, with_cell(row, first=first, last=last)), good, (first, last))

    def test_days_that_change_the_strips(self):
        book = Book([cover("low", condition=DaysIn(100, 199))])
        rows = paper_of(book, 9)
        for row in rows:
            for first, last in ((0, 99), (100, 199), (200, LAST), (50, 60), (150, 150), (300, 300)):
                paid = first in (100, 150)
                self.assertIs(is_row(book, with_cell(row, first=first, last=last)), paid == (row[0][2] == 100))

    def test_amounts(self):
        book = Book([cover("low", condition=Some([Over(10), Over(20), Condition()]))])
        for lo, hi, good in (
            (1, 10, True), (1, 1, True), (10, 10, True), (11, 11, True), (11, 20, True), (21, 40, True),
            (21, MOST, True), (MOST, MOST, True),
            (5, 7, True), (1, 11, False), (10, 11, False), (20, 21, False), (11, 21, False), (1, 40, False),
            (0, 10, False), (-1, 10, False),
            (21, MOST + 1, False), (MOST + 1, MOST + 1, False), (10, 9, False), (25, 22, False), (0, 0, False),
            (1, 0, False), (-3, -1, False),
            (21, 10**50, False),
        ):
            row = (("", "", 0, LAST), lo, hi, [(0, hi, "low", -1)], [("low", 0, hi)])
            self.assertIs(is_row(book, row), good, (lo, hi))
        self.assertIs(is_row(book, (("", "", 0, LAST), 1, 0, [], [])), False)

    def test_a_part_of_a_row(self):
        self.right(cut(self.row, 21, 30))
        self.right(cut(self.row, 30, 40))
        self.right(cut(self.row, 30, 30))
        self.wrong(cut(self.row, 20, 40), cut(self.row, 20, 30), self.row[:2] + (41,) + self.row[3:],
            self.row[:2] + (39,) + self.row[3:])

    def with_strips(self, strips):
        return self.row[:3] + (strips, self.row[4])

    def test_strips_parted_in_two(self):
        for place, strip in enumerate(self.row[3]):
            for cent in range(strip[0] + 1, strip[1]):
                self.right(by_strip(self.row, place, cent))
        self.right(by_strip(by_strip(self.row, 4, 30), 4, 27))
        self.right(self.with_strips([(cent, cent + 1, name, k) for lo, hi, name, k in self.row[3] for cent in range(lo, hi)]))

    def test_holes_overlaps_and_empty_strips(self):
        strips = self.row[3]
        for place, (lo, hi, name, k) in enumerate(strips):
            self.wrong(self.with_strips(strips[:place] + strips[place + 1:]))
            self.wrong(self.with_strips(strips[:place] + [(lo, hi - 1, name, k)] + strips[place + 1:]))
            self.wrong(self.with_strips(strips[:place] + [(lo, hi + 1, name, k)] + strips[place + 1:]))
            self.wrong(self.with_strips(strips[:place] + [(lo + 1, hi, name, k)] + strips[place + 1:]))
            self.wrong(self.with_strips(strips[:place] + [(lo - 1, hi, name, k)] + strips[place + 1:]))
            self.wrong(self.with_strips(strips[:place] + [(lo, lo, name, k)] + strips[place:]))
            self.wrong(self.with_strips(strips[:place + 1] + [(hi, hi, name, k)] + strips[place + 1:]))
            self.wrong(self.with_strips(strips[:place + 1] + [strips[place]] + strips[place + 1:]))
        self.wrong(self.with_strips([]), self.with_strips(strips[::-1]), self.with_strips(strips[1:2] + strips[:1] + strips[2:]))
        lo, hi, name, k = strips[1]
        self.wrong(self.with_strips(strips[:1] + [(3, 8, name, k), (9, 12, name, k)] + strips[2:]))
        self.wrong(self.with_strips(strips[:1] + [(3, 9, name, k), (8, 12, name, k)] + strips[2:]))
        self.wrong(self.with_strips(strips[:1] + [(3, 15, name, k), (15, 12, name, k)] + strips[2:]))

    def test_too_short_and_too_long(self):
        strips = self.row[3]
        self.wrong(self.with_strips(strips[:-1] + [(26, 39, "low", 1)]), self.with_strips(strips[:-1] + [(26, 41, "low", 1)]))
        self.wrong(self.with_strips(strips + [(40, 41, "low", 1)]), self.with_strips(strips[:-1]))
        self.wrong(self.with_strips([(-1, 3, "late", -1)] + strips[1:]), self.with_strips([(1, 3, "late", -1)] + strips[1:]))

    def test_another_name_and_another_k(self):
        strips = self.row[3]
        for place, (lo, hi, name, k) in enumerate(strips):
            for other in ("low", "high", "late", "", "other", "abcdefghijklmn"):
                for number in (-2, -1, 0, 1, 2, 10**50):
                    row = self.with_strips(strips[:place] + [(lo, hi, other, number)] + strips[place + 1:])
                    self.assertIs(is_row(self.book, row), (other, number) == (name, k))

    def with_claims(self, claims):
        return self.row[:4] + (claims,)

    def test_claims(self):
        claims = self.row[4]
        self.right(self.with_claims(claims[::-1]))
        self.wrong(self.with_claims([]), self.with_claims(claims[:1]), self.with_claims(claims[1:]),
            self.with_claims(claims + claims[:1]))
        self.wrong(self.with_claims(claims + [("late", 0, 4)]), self.with_claims(claims + [("other", 0, 4)]),
            self.with_claims(claims * 2))
        self.wrong(self.with_claims(claims + [("low", 12, 12)]), self.with_claims([("low", 3, 8), ("low", 8, 12)] + claims[1:]))
        for place, (name, x, y) in enumerate(claims):
            for claim in ((name, x - 1, y), (name, x + 1, y), (name, x, y - 1), (name, x, y + 1), (name + "x", x, y),
                ("", x, y), (claims[1 - place][0], x, y)):
                self.wrong(self.with_claims(claims[:place] + [claim] + claims[place + 1:]))

    def test_a_book_without_covers(self):
        for hi in (1, 9, MOST):
            self.assertIs(is_row(Book([]), (("", "", 5, 7), 1, hi, [(0, hi, "", 0)], [])), True)
            self.assertIs(is_row(Book([]), (("", "", 5, 7), 1, hi, [(0, hi, "", -1)], [])), False)

    def test_against_own_looking(self):
        chooser = random.Random(87)
        seen = {True: 0, False: 0}
        for turn in range(300):
            book = some_book(chooser)
            row = chooser.choice(paper_of(book, chooser.choice((1, 12, 30))))
            row = freer(chooser, row)
            self.assertIs(is_row(book, row), True)
            for times in range(8):
                bad = spoilt(chooser, row)
                told = is_row(book, bad)
                self.assertIs(told, own_is_row(book, bad), bad)
                seen[told] += 1
        self.assertTrue(seen[True] > 100 and seen[False] > 100, seen)

    def test_what_is_handed_in_stays(self):
        row = freer(random.Random(3), self.row)
        copy = row[:3] + (list(row[3]), list(row[4]))
        is_row(self.book, row)
        self.assertEqual(row, copy)


class TestPaper(unittest.TestCase):
    def setUp(self):
        self.book = a_book()
        self.rows = paper_of(self.book, 40)

    def paper(self, rows, bound=40):
        self.assertIs(is_paper(self.book, bound, rows), True)

    def none(self, rows, bound=40):
        self.assertIs(is_paper(self.book, bound, rows), False)

    def test_that_of_the_book(self):
        for bound in (1, 2, 9, 10, 11, 20, 21, 40, MOST):
            self.paper(paper_of(self.book, bound), bound)
            for other in (bound - 1, bound + 1, 1000, MOST):
                if other != bound:
                    self.none(paper_of(self.book, bound), other)

    def test_in_another_order(self):
        self.paper(self.rows[::-1])
        self.paper(random.Random(1).sample(self.rows, len(self.rows)))

    def test_parted_and_freer(self):
        chooser = random.Random(2)
        for turn in range(20):
            self.paper(some_parting(chooser, self.rows))
            self.paper(some_parting(chooser, some_parting(chooser, self.rows)))

    def test_a_row_left_out(self):
        for place in range(len(self.rows)):
            self.none(self.rows[:place] + self.rows[place + 1:])

    def test_a_row_told_twice(self):
        for place in range(len(self.rows)):
            self.none(self.rows[:place] + [self.rows[place]] + self.rows[place:])
            self.none(self.rows + [self.rows[place]])
            self.none(self.rows + [cut(self.rows[place], self.rows[place][2], self.rows[place][2])])
            self.none(self.rows + [with_cell(self.rows[place], last=self.rows[place][0][2])])

    def test_overlapping_by_a_day_and_by_a_cent_and_holes(self):
        row = self.rows[0]
        self.assertEqual((row[0][2:], row[1:3]), ((0, 99), (1, 10)))
        for one, other, good in ((49, 50, True), (50, 50, False), (49, 51, False), (0, 1, True), (98, 99, True),
            (99, 99, False), (99, 0, False)):
            parts = [with_cell(row, last=one), with_cell(row, first=other)]
            self.assertIs(is_paper(self.book, 40, self.rows[1:] + parts), good, (one, other))
        for one, other, good in ((4, 5, True), (5, 5, False), (4, 6, False), (1, 2, True), (9, 10, True),
            (10, 10, False), (10, 1, False)):
            parts = [cut(row, 1, one), cut(row, other, 10)]
            self.assertIs(is_paper(self.book, 40, self.rows[1:] + parts), good, (one, other))

    def test_four_parts_round_a_fifth(self):
        row = self.rows[0]
        around = [with_cell(cut(row, 1, 3), last=79), with_cell(cut(row, 1, 6), first=80),
            with_cell(cut(row, 7, 10), first=20), with_cell(cut(row, 4, 10), last=19)]
        middle = with_cell(cut(row, 4, 6), first=20, last=79)
        self.paper(self.rows[1:] + around + [middle])
        self.none(self.rows[1:] + around)
        for bad in (with_cell(middle, first=21), with_cell(middle, first=19), with_cell(middle, last=78),
            with_cell(middle, last=80),
                    cut(middle, 5, 6), cut(middle, 4, 5), (middle[0], 3) + middle[2:]):
            self.assertIs(is_row(self.book, bad), True)
            self.none(self.rows[1:] + around + [bad])

    def test_one_cent_short_of_the_bound_or_above_it(self):
        last = self.rows[-1]
        longer = paper_of(self.book, 41)[-1]
        self.none(self.rows[:-1] + [cut(last, 21, 39)])
        self.none(self.rows[:-1] + [longer])
        self.assertIs(is_row(self.book, longer), True)
        self.none(self.rows, 39)
        self.none(self.rows, 41)
        self.paper(self.rows[:-1] + [cut(longer, 21, 40)])

    def test_a_row_that_is_not_right(self):
        for place, row in enumerate(self.rows):
            self.none(self.rows[:place] + [row[:4] + (row[4] + [("other", 0, 1)],)] + self.rows[place + 1:])
            self.none(self.rows + [row[:3] + (row[3][:-1], row[4])])

    def test_no_rows_and_no_bounds(self):
        self.none([])
        self.assertIs(is_paper(Book([]), 9, []), False)
        for bound in (0, -1, 10**12, True, False, None, "40", 40.0, [40]):
            self.none(self.rows, bound)
            self.none([], bound)
        ones = paper_of(self.book, 1)
        self.paper(ones, 1)
        self.none(ones, True)

    def test_against_own_looking(self):
        chooser = random.Random(88)
        seen = {True: 0, False: 0}
        for turn in range(60):
            book = some_book(chooser)
            bound = chooser.choice((1, 9, 16))
            rows = some_parting(chooser, paper_of(book, bound))
            self.assertIs(own_is_paper(book, bound, rows), True)
            self.assertIs(is_paper(book, bound, rows), True)
            for times in range(6):
                place = chooser.randrange(len(rows))
                several = rows[:place] + [spoilt(chooser, rows[place])] + rows[place + 1:]
                told = is_paper(book, bound, several)
                self.assertIs(told, own_is_paper(book, bound, several))
                seen[told] += 1
        self.assertTrue(seen[True] > 10 and seen[False] > 100, seen)

    def test_as_many_rows_as_they_like(self):
        book = Book([cover("low", [Own("loss", 3)])])
        row = paper_of(book, 2000)[0]
        rows = [cut(row, cents, cents) for cents in range(1, 401)] + [cut(row, 401, 2000)]
        self.assertIs(is_paper(book, 2000, rows), True)
        self.assertIs(is_paper(book, 2000, rows[1:]), False)
        rows = [with_cell(row, first=day, last=day) for day in range(400)] + [with_cell(row, first=400)]
        self.assertIs(is_paper(book, 2000, rows), True)
        self.assertIs(is_paper(book, 2000, rows[:200] + rows[201:]), False)

    def test_what_is_handed_in_stays(self):
        rows = some_parting(random.Random(5), self.rows)
        copy = [row[:3] + (list(row[3]), list(row[4])) for row in rows]
        is_paper(self.book, 40, rows)
        self.assertEqual(rows, copy)
        self.assertEqual(paper_of(self.book, 40), self.rows)


if __name__ == "__main__":
    unittest.main()
