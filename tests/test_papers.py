"""[83]: claims. [84]: the paper. [85]: the first fault. [86]: without a double cover each firm cover pays its claim."""

import random
import unittest

from coverroll.books import Book
from coverroll.cells import cells_of, loss_in, marks_of, stretches_of
from coverroll.clauses import Layer, Limit, Own
from coverroll.conditions import All, CauseIs, Condition, DaysIn, Not, Over, Some, ThingIs
from coverroll.counts import Counts
from coverroll.errors import NoEntry, TooWide
from coverroll.papers import claims_of, first_fault, paper_of
from coverroll.settling import settle, strips_of
from tests.making import WAYS, Case, by_the_rule, cover, loss, some_clause, strips_from

LAST = 10**6
MOST = 10**12 - 1
FAR = 10**60 - 1


def some_condition(chooser):
    parts = [CauseIs("hail"), ThingIs("roof"), Over(9), Over(20), DaysIn(100, 364), Not(CauseIs("fire")), Not(Over(15))]
    parts += [Some([ThingIs("wall"), Over(5)]), All([CauseIs("hail"), Not(ThingIs("wall"))])]
    return chooser.choice([Condition()] * 4 + parts)


def some_books(seed, many):
    chooser = random.Random(seed)
    for turn in range(many):
        covers = []
        for name in ("dd", "b", "cc", "a")[:turn % 5]:
            clauses = [some_clause(chooser) for k in range(chooser.choice((0, 1, 1, 2, 3)))]
            covers.append(cover(name, clauses, some_condition(chooser), chooser.random() < 0.25))
        yield chooser, Book(covers)


def cut(rows, cents):
    """Strips or claims cut off at so many cents."""
    if rows and isinstance(rows[0][0], int):
        return [(lo, min(hi, cents), name, k) for lo, hi, name, k in rows if lo < cents]
    return [(name, x, min(y, cents)) for name, x, y in rows if x < cents]


def own_fault(rows, first, upto):
    """[85], by looking at the single cents of every loss of every row."""
    found = []
    for cell, lo, hi, strips, claims in rows:
        unpaid = [cent for s, e, name, k in strips if k != -1 for cent in range(s, e) if first <= cent < upto]
        twice = [cent for cent in range(hi) if sum(x <= cent < y for name, x, y in claims) > 1]
        for cents in range(lo, hi + 1):
            for word, faulty in (("double", twice), ("gap", unpaid)):
                below = [cent for cent in faulty if cent < cents]
                if below:
                    found.append((cents, word, min(below), cell))
    if not found:
        return None
    least = min(one[0] for one in found)
    of_least = [one for one in found if one[0] == least]
    doubles = [one for one in of_least if one[1] == "double"]
    return (doubles or of_least)[0]


def parted(row, day=None, cents=None):
    """A row parted in two, by days or by amounts."""
    cell, lo, hi, strips, claims = row
    if day is not None:
        return [((cell[0], cell[1], cell[2], day - 1), lo, hi, strips, claims),
            ((cell[0], cell[1], day, cell[3]), lo, hi, strips, claims)]
    return [(cell, lo, cents, cut(strips, cents), cut(claims, cents)), (cell, cents + 1, hi, strips, claims)]


class TestClaims(unittest.TestCase):
    def test_firm_covers_that_are_asked_in_the_books_order(self):
        covers = [cover("z"), cover("late", waits=True), cover("b", [Own("loss", 3)]),
            cover("fire", condition=CauseIs("fire")), cover("a")]
        self.assertEqual(claims_of(Book(covers), loss(9)), [("z", 0, 9), ("b", 3, 9), ("a", 0, 9)])
        self.assertEqual(claims_of(Book(covers), loss(9, cause="fire")), [("z", 0, 9), ("b", 3, 9), ("fire", 0, 9), ("a", 0, 9)])
        self.assertEqual(claims_of(Book(covers[1:2]), loss(9)), [])
        self.assertEqual(claims_of(Book([]), loss(9)), [])

    def test_limits_of_all_ways(self):
        for by in WAYS:
            for most, wanted in ((0, []), (1, [("low", 0, 1)]), (8, [("low", 0, 8)]), (9, [("low", 0, 9)]),
                (50, [("low", 0, 9)])):
                self.assertEqual(claims_of(Book([cover("low", [Limit(by, most)])]), loss(9, 7, 800)), wanted)

    def test_windows_and_limits(self):
        several = [Own("loss", 3), Limit("year", 4), Layer("event", 2, 20), Limit("thing", 5)]
        self.assertEqual(claims_of(Book([cover("low", several)]), loss(30)), [("low", 3, 7)])
        self.assertEqual(claims_of(Book([cover("low", several)]), loss(5)), [("low", 3, 5)])
        self.assertEqual(claims_of(Book([cover("low", [Layer("event", 2, 20), Own("year", 9)])]), loss(30)), [("low", 9, 20)])

    def test_windows_without_cents(self):
        for clauses in ([Own("loss", 9)], [Own("loss", 50)], [Layer("loss", 9, 20)], [Layer("loss", 2, 4), Own("loss", 4)],
                        [Layer("loss", 2, 4), Layer("year", 4, 8)], [Layer("loss", 4, 8), Layer("year", 1, 2)]):
            self.assertEqual(claims_of(Book([cover("low", clauses)]), loss(9)), [])

    def test_what_each_pays_where_it_is_alone(self):
        for chooser, book in some_books(83, 150):
            for times in range(4):
                one = loss(chooser.choice((1, 9, 10, chooser.randint(1, 60))), 3, chooser.choice((0, 100, 400)),
                           thing=chooser.choice(("roof", "wall")), cause=chooser.choice(("hail", "fire")))
                wanted = []
                for payer in book.covers:
                    paid = [cent for cent, bears in enumerate(by_the_rule([payer], {}, one)) if bears[1] == -1]
                    if paid and not payer.waits:
                        self.assertEqual(paid, list(range(paid[0], paid[-1] + 1)))
                        wanted.append((payer.name, paid[0], paid[-1] + 1))
                self.assertEqual(claims_of(book, one), wanted)

    def test_where_no_cent_lies_in_two_claims_each_firm_cover_pays_its_claim(self):
        seen = 0
        for chooser, book in some_books(86, 400):
            one = loss(chooser.randint(1, 60))
            claims = claims_of(book, one)
            if all(sum(x <= cent < y for name, x, y in claims) < 2 for cent in range(one[5])):
                strips = strips_of(book, Counts(), one)
                firm = [c.name for c in book.covers if not c.waits]
                self.assertEqual(sorted((name, lo, hi) for lo, hi, name, k in strips if k == -1 and name in firm), sorted(claims))
                seen += len(claims) > 1
        self.assertGreater(seen, 5)

    def test_told_lists_are_the_askers_own(self):
        book = Book([cover("low")])
        claims_of(book, loss(9)).clear()
        self.assertEqual(claims_of(book, loss(9)), [("low", 0, 9)])
        self.assertIsInstance(claims_of(book, loss(9))[0], tuple)


class TestPaper(Case):
    def test_by_hand(self):
        book = Book([cover("low", [Own("loss", 2)], Over(4)), cover("high", [Limit("loss", 3)], CauseIs("hail"))])
        every = (0, LAST)
        self.assertEqual(paper_of(book, 9), [
            (("hail", "") + every, 1, 4, [(0, 3, "high", -1), (3, 4, "high", 0)], [("high", 0, 3)]),
            (("hail", "") + every, 5, 9, [(0, 2, "high", -1), (2, 9, "low", -1)], [("low", 2, 9), ("high", 0, 3)]),
            (("", "") + every, 1, 4, [(0, 4, "", 0)], []),
            (("", "") + every, 5, 9, [(0, 2, "low", 0), (2, 9, "low", -1)], [("low", 2, 9)]),
        ])

    def test_without_covers(self):
        for bound in (1, 2, MOST):
            self.assertEqual(paper_of(Book([]), bound), [(("", "", 0, LAST), 1, bound, [(0, bound, "", 0)], [])])

    def test_rows_are_of_cells_and_stretches_in_their_order(self):
        for chooser, book in some_books(84, 60):
            bound = chooser.choice((1, 9, 10, 40, MOST))
            rows = paper_of(book, bound)
            self.assertEqual([row[:3] for row in rows],
                [(cell,) + one for cell in cells_of(book) for one in stretches_of(book, bound)])
            for cell, lo, hi, strips, claims in rows:
                one = loss_in(book, cell, hi)
                self.assertEqual((strips, claims), (strips_of(book, Counts(), one), claims_of(book, one)))
            self.assertTrue(all(isinstance(row, tuple) and isinstance(row[3], list) and isinstance(row[4], list) for row in rows))

    def test_each_loss_of_a_row_has_the_rows_strips_and_claims_cut_off(self):
        for chooser, book in some_books(85, 100):
            bound = chooser.choice((9, 25, 60))
            causes, things = marks_of(book)[:2]
            for cell, lo, hi, strips, claims in paper_of(book, bound):
                cause = cell[0] or chooser.choice([name for name in ("hail", "fire", "x", "wall") if name not in causes])
                thing = cell[1] or chooser.choice([name for name in ("roof", "wall", "y", "fire") if name not in things])
                for cents in {lo, hi, chooser.randint(lo, hi)}:
                    for day in (cell[2], cell[3], chooser.randint(cell[2], cell[3])):
                        one = (chooser.randint(0, 10**9), day, chooser.choice(("storm", "a.b")), thing, cause, cents)
                        self.assertEqual(cut(strips, cents), strips_from(by_the_rule(book.covers, {}, one)))
                        self.assertEqual(cut(claims, cents), claims_of(book, one))

    def test_what_is_no_bound(self):
        wide = Book([cover("low", condition=Some([Over(cents) for cents in range(1, 9)])), cover("b", condition=DaysIn(1, 1))])
        for book in (Book([]), wide):
            for thing in (0, -1, 10**12, True, False, "5", "1.00", None, 5.0, [5]):
                self.refused(NoEntry, paper_of, book, thing)

    def wide_book(self, amounts, days):
        """A book with so many stretches of amounts (up to 1000 cents) and of days."""
        parts = [Over(cents) for cents in range(1, amounts)] + [DaysIn(0, day) for day in range(2, days + 1)]
        groups = [parts[k::8] for k in range(8)]
        return Book([cover("abcdefgh"[k], condition=Some(g) if len(g) > 1 else g[0]) for k, g in enumerate(groups) if g])

    def test_just_120_rows_and_121(self):
        for amounts, days in ((120, 1), (1, 120), (12, 10), (60, 2), (2, 60)):
            book = self.wide_book(amounts, days)
            self.assertEqual((len(cells_of(book)), len(stretches_of(book, 1000))), (days, amounts))
            self.assertEqual(len(paper_of(book, 1000)), 120)
            self.assertEqual(len(paper_of(book, 1)), days)
        for amounts, days in ((121, 1), (1, 121), (11, 11)):
            self.refused(TooWide, paper_of, self.wide_book(amounts, days), 1000)
            self.refused(NoEntry, paper_of, self.wide_book(amounts, days), 0)
            self.refused(NoEntry, paper_of, self.wide_book(amounts, days), True)
        self.assertEqual(len(paper_of(self.wide_book(121, 1), 120)), 120)
        self.assertEqual(len(paper_of(self.wide_book(11, 11), 10)), 110)

    def test_the_book_is_left_fresh(self):
        book = Book([cover("low", [Own("event", 2), Limit("year", 5)])])
        rows = paper_of(book, 20)
        self.assertEqual(paper_of(book, 20), rows)
        self.assertEqual(settle(book, Counts(), loss(20)), rows[0][3])
        counts = Counts()
        settle(book, counts, loss(20))
        self.assertEqual(paper_of(book, 20), rows)

    def test_told_lists_are_the_askers_own(self):
        book = Book([cover("low", [Own("event", 2), Limit("year", 5)], Over(4))])
        wanted = paper_of(book, 20)
        told = paper_of(book, 20)
        told[0][3].clear()
        told[1][4].append(("x", 0, 1))
        told[1][3][0] = (0, 1, "x", -1)
        told.pop()
        self.assertEqual(paper_of(book, 20), wanted)
        told.clear()
        self.assertEqual(paper_of(book, 20), wanted)


class TestFirstFault(unittest.TestCase):
    CELL = ("hail", "roof", 0, 9)
    OTHER = ("", "", 3, 5)

    def row(self, strips, claims=(), lo=1, cell=CELL):
        return (cell, lo, strips[-1][1], strips, list(claims))

    def test_no_rows(self):
        self.assertIsNone(first_fault([], 0, 50))

    def test_gaps_by_the_wish(self):
        rows = [self.row([(0, 10, "a", -1), (10, 20, "a", 0), (20, 30, "a", -1), (30, 40, "a", 1)])]
        for first, upto, wanted in (
            (0, 40, (11, "gap", 10)), (0, 11, (11, "gap", 10)), (0, 10, None), (10, 11, (11, "gap", 10)),
            (15, 40, (16, "gap", 15)),
            (19, 20, (20, "gap", 19)), (20, 30, None), (20, 31, (31, "gap", 30)), (39, 40, (40, "gap", 39)), (40, 50, None),
            (10, 10, None), (15, 15, None), (0, 0, None), (FAR - 1, FAR, None), (0, FAR, (11, "gap", 10)),
            (35, FAR, (36, "gap", 35)),
        ):
            self.assertEqual(first_fault(rows, first, upto), wanted and wanted + (self.CELL,))

    def test_no_cover_asked_is_a_gap(self):
        self.assertEqual(first_fault([self.row([(0, 9, "", 0)])], 0, 9), (1, "gap", 0, self.CELL))

    def test_a_row_that_begins_above_the_fault(self):
        strips = [(0, 10, "a", 0), (10, 20, "a", -1)]
        self.assertEqual(first_fault([self.row(strips, lo=15)], 3, 40), (15, "gap", 3, self.CELL))
        self.assertEqual(first_fault([self.row(strips, lo=4)], 3, 40), (4, "gap", 3, self.CELL))
        self.assertEqual(first_fault([self.row(strips, lo=3)], 3, 40), (4, "gap", 3, self.CELL))
        claims = [("a", 0, 9), ("b", 4, 9)]
        self.assertEqual(first_fault([self.row(strips, claims, lo=15)], 0, 0), (15, "double", 4, self.CELL))
        self.assertEqual(first_fault([self.row(strips, claims, lo=5)], 0, 0), (5, "double", 4, self.CELL))
        self.assertEqual(first_fault([self.row(strips, claims, lo=4)], 0, 0), (5, "double", 4, self.CELL))

    def test_double_covers(self):
        strips = [(0, 40, "a", -1)]
        for claims, cent in (
            ([("a", 0, 40)], None), ([("a", 0, 20), ("b", 20, 40)], None), ([("a", 0, 21), ("b", 20, 40)], 20), ([], None),
            ([("b", 20, 40), ("a", 0, 21)], 20), ([("a", 0, 40), ("b", 5, 9), ("c", 3, 5)], 3),
            ([("a", 0, 5), ("b", 9, 20), ("c", 12, 15)], 12),
            ([("a", 0, 9), ("b", 0, 9)], 0), ([("a", 39, 40), ("b", 0, 40)], 39),
            ([("a", 0, 40), ("b", 7, 30), ("c", 30, 40)], 7),
            ([("c", 30, 40), ("a", 0, 20), ("b", 20, 30), ("d", 35, 36)], 35),
        ):
            wanted = None if cent is None else (cent + 1, "double", cent, self.CELL)
            self.assertEqual(first_fault([self.row(strips, claims)], 0, 40), wanted)
            self.assertEqual(first_fault([self.row(strips, claims[::-1])], 0, 0), wanted)

    def test_double_ahead_of_gap_at_like_cents(self):
        gap = self.row([(0, 5, "a", -1), (5, 9, "a", 0)])
        double = self.row([(0, 9, "a", -1)], [("a", 0, 9), ("b", 5, 9)], cell=self.OTHER)
        both = self.row([(0, 5, "a", -1), (5, 9, "a", 0)], [("a", 0, 9), ("b", 5, 9)])
        for rows in ([gap, double], [double, gap], [gap, gap, double]):
            self.assertEqual(first_fault(rows, 0, 9), (6, "double", 5, self.OTHER))
        self.assertEqual(first_fault([both], 0, 9), (6, "double", 5, self.CELL))
        lesser = self.row([(0, 4, "a", -1), (4, 9, "a", 0)])
        self.assertEqual(first_fault([double, lesser], 0, 9), (5, "gap", 4, self.CELL))
        self.assertEqual(first_fault([double, lesser], 5, 9), (6, "double", 5, self.OTHER))

    def test_double_ahead_of_gap_where_the_row_begins_above_both(self):
        strips = [(0, 3, "a", 0), (3, 20, "a", -1)]
        self.assertEqual(first_fault([self.row(strips, [("a", 3, 20), ("b", 8, 20)], lo=12)], 0, 9), (12, "double", 8, self.CELL))

    def test_the_first_row_of_several(self):
        one, other = self.row([(0, 5, "a", -1), (5, 9, "a", 0)]), self.row([(0, 5, "b", -1), (5, 9, "b", 2)], cell=self.OTHER)
        self.assertEqual(first_fault([one, other], 0, 9), (6, "gap", 5, self.CELL))
        self.assertEqual(first_fault([other, one], 0, 9), (6, "gap", 5, self.OTHER))
        later = self.row([(0, 4, "c", 0), (4, 9, "a", -1)], lo=6, cell=self.OTHER)
        self.assertEqual(first_fault([one, later], 0, 9), (6, "gap", 5, self.CELL))
        self.assertEqual(first_fault([later, one], 0, 9), (6, "gap", 0, self.OTHER))

    def test_against_own_looking(self):
        seen = {}
        for chooser, book in some_books(87, 300):
            rows = paper_of(book, chooser.choice((5, 12, 30)))
            for times in range(4):
                first, upto = sorted((chooser.randint(0, 32), chooser.choice((chooser.randint(0, 32), FAR))))
                shuffled = chooser.sample(rows, len(rows))
                for several in (rows, shuffled):
                    told = first_fault(several, first, upto)
                    self.assertEqual(told, own_fault(several, first, upto))
                    seen[told and told[1]] = seen.get(told and told[1], 0) + 1
        self.assertTrue(all(seen[word] > 50 for word in (None, "gap", "double")), seen)

    def test_rows_parted_in_two(self):
        for chooser, book in some_books(88, 150):
            rows = paper_of(book, 25)
            wanted = first_fault(rows, 3, 20)
            several = []
            for row in rows:
                if row[1] < row[2]:
                    several += parted(row, cents=chooser.randint(row[1], row[2] - 1))
                elif row[0][2] < row[0][3]:
                    several += parted(row, day=chooser.randint(row[0][2] + 1, row[0][3]))
                else:
                    several.append(row)
            told = first_fault(several, 3, 20)
            self.assertEqual(told, own_fault(several, 3, 20))
            self.assertEqual(told and told[:3], wanted and wanted[:3])

    def test_a_cent_of_self_is_paid(self):
        book = Book([cover("low", houses=[("self", 1)])])
        self.assertIsNone(first_fault(paper_of(book, 50), 0, 50))

    def test_great_numbers(self):
        book = Book([cover("low", [Limit("loss", 10**11)]), cover("high", [Layer("loss", 10**11 - 1, MOST)], waits=True)])
        self.assertIsNone(first_fault(paper_of(book, MOST), 0, MOST))
        book = Book([cover("low", [Limit("loss", 10**11)]), cover("high", [Layer("loss", 10**11 - 1, MOST)])])
        self.assertEqual(first_fault(paper_of(book, MOST), 0, MOST), (10**11, "double", 10**11 - 1, ("", "", 0, LAST)))
        book = Book([cover("low", [Limit("loss", 10**11)]), cover("high", [Layer("loss", 10**11, MOST - 1)])])
        self.assertEqual(first_fault(paper_of(book, MOST), 0, FAR), (MOST, "gap", MOST - 1, ("", "", 0, LAST)))

    def test_the_rows_stay_as_handed_in(self):
        book = Book([cover("low", [Own("event", 2), Limit("year", 5)], Over(4)), cover("high")])
        rows, wanted = paper_of(book, 20), paper_of(book, 20)
        first_fault(rows, 0, 9)
        self.assertEqual(rows, wanted)


if __name__ == "__main__":
    unittest.main()
