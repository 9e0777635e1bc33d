"""[88]: lines. [89]: the least number."""

import random
import unittest

from coverroll.books import Book
from coverroll.clauses import Layer, Limit
from coverroll.conditions import Condition, Over
from coverroll.lines import least_pay, least_where, line_of, pay_lines
from coverroll.papers import paper_of
from tests.making import by_cents, cover, some_clause

FAR = 10**60 - 1
CELL = ("", "", 0, 10**6)
ROW = (CELL, 5, 30, [(0, 4, "a", 0), (4, 10, "b", -1), (10, 15, "a", -1), (15, 16, "a", 1), (16, 30, "b", -1)], [])


def some_rows(seed, many):
    chooser = random.Random(seed)
    for turn in range(many):
        covers = []
        for name in ("dd", "b", "cc", "a")[:turn % 5]:
            clauses = [some_clause(chooser) for k in range(chooser.choice((0, 1, 1, 2, 3)))]
            condition = chooser.choice((Condition(), Condition(), Over(9), Over(20)))
            covers.append(cover(name, clauses, condition, chooser.random() < 0.25))
        for row in paper_of(Book(covers), chooser.choice((1, 12, 40))):
            yield chooser, row
            if row[1] < row[2]:
                yield chooser, (row[0], chooser.randint(row[1], row[2])) + row[2:]


def paid_by_cents(row, name, cents):
    return by_cents(row[3])[:cents].count((name, -1))


class TestLine(unittest.TestCase):
    def test_of_both_slopes_ahead_of_a_at_it_and_behind_it(self):
        for a, p in ((5, 20), (0, 0), (-3, 7), (10**50, -4), (7, 10**50)):
            for x in (a - 10**20, a - 2, a - 1, a, a + 1, a + 2, a + 10**20):
                self.assertEqual(line_of(a, p, 0)(x), p)
                self.assertEqual(line_of(a, p, 1)(x), p + x - a)

    def test_two_lines_are_free_of_one_another(self):
        one, other = line_of(5, 20, 1), line_of(6, 30, 0)
        self.assertEqual([one(7), other(7), one(8), other(8)], [22, 30, 23, 30])


class TestPayLines(unittest.TestCase):
    def told(self, row, name):
        return [(a, b, line(a), line(b)) for a, b, line in pay_lines(row, name)]

    def test_by_hand(self):
        self.assertEqual(self.told(ROW, "b"), [(5, 10, 1, 6), (11, 15, 6, 6), (16, 16, 6, 6), (17, 30, 7, 20)])
        self.assertEqual(self.told(ROW, "a"), [(5, 10, 0, 0), (11, 15, 1, 5), (16, 16, 5, 5), (17, 30, 5, 5)])
        self.assertEqual(self.told(ROW, "c"), [(5, 10, 0, 0), (11, 15, 0, 0), (16, 16, 0, 0), (17, 30, 0, 0)])

    def test_where_lo_lies_in_a_strip(self):
        for lo, first in ((1, (1, 4)), (2, (2, 4)), (4, (4, 4)), (5, (5, 10)), (10, (10, 10)), (11, (11, 15)),
            (13, (13, 15)), (16, (16, 16)), (30, (30, 30))):
            lines = pay_lines(ROW[:1] + (lo,) + ROW[2:], "b")
            self.assertEqual(lines[0][:2], first)
            self.assertEqual(lines[-1][1], 30)

    def test_a_name_without_signs(self):
        row = (CELL, 1, 9, [(0, 9, "", 0)], [])
        for name in ("", "low"):
            self.assertEqual(self.told(row, name), [(1, 9, 0, 0)])

    def test_against_the_strips_cent_by_cent(self):
        sorts = set()
        for chooser, row in some_rows(88, 150):
            for name in ("dd", "b", "cc", "a", "other", ""):
                lines = pay_lines(row, name)
                strips = [strip for strip in row[3] if strip[1] >= row[1]]
                self.assertEqual([(a, b) for a, b, line in lines], [(max(s + 1, row[1]), e) for s, e, n, k in strips])
                for a, b, line in lines:
                    for x in {a, b, chooser.randint(a, b)}:
                        self.assertEqual(line(x), paid_by_cents(row, name, x))
                    slope = line(b + 1) - line(b)
                    self.assertEqual(slope, int((name, -1) == [s[2:] for s in strips if s[1] == b][0]))
                    sorts.add((slope, row[1] == 1))
                self.assertEqual([a for a, b, line in lines] + [row[2] + 1], [row[1]] + [b + 1 for a, b, line in lines])
        self.assertEqual(len(sorts), 4)

    def test_strips_parted_in_two(self):
        row = (CELL, 3, 9, [(0, 2, "a", -1), (2, 5, "a", -1), (5, 6, "b", -1), (6, 9, "a", -1)], [])
        self.assertEqual(self.told(row, "a"), [(3, 5, 3, 5), (6, 6, 5, 5), (7, 9, 6, 8)])

    def test_the_strips_emptied_behind_the_call(self):
        strips = list(ROW[3])
        row = (CELL, 5, 30, strips, [])
        lines = pay_lines(row, "b")
        self.assertEqual(strips, ROW[3])
        strips.clear()
        self.assertEqual([(a, b, line(a), line(b)) for a, b, line in lines], self.told(ROW, "b"))

    def test_kinds(self):
        told = pay_lines(ROW, "b")
        self.assertIsInstance(told, list)
        self.assertTrue(all(isinstance(one, tuple) and len(one) == 3 for one in told))
        told.clear()
        self.assertEqual(len(pay_lines(ROW, "b")), 4)


class TestLeastWhere(unittest.TestCase):
    def asked(self, a, b, least):
        """What is told of a test that holds from least on, and of which numbers it was asked."""
        numbers = []

        def test(x):
            numbers.append(x)
            return x >= least

        return least_where(a, b, test), numbers

    def test_from_each_number_of_a_small_stretch_on(self):
        for a in (-7, -1, 0, 5):
            for size in range(1, 12):
                b = a + size - 1
                for least in range(a - 1, b + 2):
                    told, numbers = self.asked(a, b, least)
                    self.assertEqual(told, None if least > b else max(least, a))
                    self.assertTrue(all(a <= x <= b for x in numbers))

    def test_of_none_and_of_all(self):
        self.assertIsNone(least_where(3, 9, lambda x: False))
        self.assertEqual(least_where(3, 9, lambda x: True), 3)
        self.assertEqual(least_where(3, 3, lambda x: True), 3)
        self.assertIsNone(least_where(3, 3, lambda x: False))

    def test_a_above_b(self):
        for a, b in ((4, 3), (10**50, 0), (0, -1)):
            told, numbers = self.asked(a, b, -10**60)
            self.assertIsNone(told)
            self.assertEqual(numbers, [])

    def test_stretches_of_great_numbers_in_few_askings(self):
        chooser = random.Random(89)
        for turn in range(50):
            least = chooser.choice((-FAR, FAR, 0, chooser.randint(-FAR, FAR), FAR + 1))
            told, numbers = self.asked(-FAR, FAR, least)
            self.assertEqual(told, None if least > FAR else least)
            self.assertLess(len(numbers), 250)
            self.assertTrue(all(-FAR <= x <= FAR for x in numbers))


class TestLeastPay(unittest.TestCase):
    def test_by_hand(self):
        for want, least in ((0, 5), (1, 5), (2, 6), (6, 10), (7, 17), (8, 18), (20, 30), (21, None), (10**50, None)):
            self.assertEqual(least_pay(ROW, "b", want), least)
        for want, least in ((0, 5), (1, 11), (5, 15), (6, None)):
            self.assertEqual(least_pay(ROW, "a", want), least)
        self.assertEqual(least_pay(ROW, "c", 0), 5)
        self.assertIsNone(least_pay(ROW, "c", 1))

    def test_against_cent_by_cent(self):
        for chooser, row in some_rows(90, 120):
            for name in ("dd", "b", "a", "other", ""):
                paid = {cents: paid_by_cents(row, name, cents) for cents in range(row[1], row[2] + 1)}
                most = max(paid.values())
                for want in {0, 1, most, most + 1, most // 2, chooser.randint(0, most + 3)}:
                    least = min([cents for cents in paid if paid[cents] >= want], default=None)
                    self.assertEqual(least_pay(row, name, want), least)

    def test_great_numbers(self):
        most = 10**12 - 1
        row = paper_of(Book([cover("low", [Limit("loss", 10**6)]), cover("high", [Layer("loss", 10**9, 10**11)])]), most)[0]
        self.assertEqual(least_pay(row, "high", 10**11 - 10**9), 10**11)
        self.assertEqual(least_pay(row, "high", 1), 10**9 + 1)
        self.assertIsNone(least_pay(row, "high", 10**11 - 10**9 + 1))
        self.assertEqual(least_pay(row, "low", 10**6), 10**6)

    def test_the_row_stays(self):
        row = (CELL, 5, 30, list(ROW[3]), [])
        least_pay(row, "b", 7)
        self.assertEqual(row, ROW)


if __name__ == "__main__":
    unittest.main()
