"""[55]: tallies and bills. [7]: limits by year are never passed."""

import random
import unittest

from coverroll.bills import bill, tally
from coverroll.books import Book
from coverroll.clauses import Limit
from coverroll.rolls import Roll
from tests.making import Reckoned, by_cents, cover, loss, some_cover, some_loss


def by_hand(strips):
    """The test's own sums, over single cents."""
    cents = by_cents(strips)
    paid = sorted({name for name, k in cents if k == -1})
    borne = sorted({bears for bears in cents if bears[1] != -1})
    return [(name, cents.count((name, -1))) for name in paid], [bears + (cents.count(bears),) for bears in borne]


def added(one, other):
    """Two bills as one."""
    return by_hand([(0, cents, name, -1) for name, cents in one[0] + other[0]]
                   + [(0, cents, name, k) for name, k, cents in one[1] + other[1]])


def some_rolls(seed, many):
    chooser = random.Random(seed)
    for turn in range(many):
        covers = [some_cover(chooser, name) for name in ("dd", "b", "cc", "a")[:turn % 5]]
        losses = [some_loss(chooser, number, range(0, 1100, 9)) for number in chooser.sample(range(90), 20)]
        roll = Roll(Book(covers))
        for one in losses:
            roll.enter(*one)
        roll.close(1000)
        yield chooser, covers, [one for one in losses if one[1] <= 1000], roll


class TestTally(unittest.TestCase):
    def test_no_strips(self):
        self.assertEqual(tally([]), ([], []))
        self.assertIsInstance(tally([]), tuple)

    def test_of_one_loss(self):
        strips = [(0, 100, "low", 0), (100, 600, "low", -1), (600, 900, "high", -1), (900, 1000, "low", 1)]
        self.assertEqual(tally(strips), ([("high", 300), ("low", 500)], [("low", 0, 100), ("low", 1, 100)]))

    def test_of_several_losses(self):
        strips = [(0, 4, "b", -1), (4, 9, "a", 10), (0, 7, "a", 2), (7, 8, "b", -1), (0, 5, "", 0), (5, 6, "a", -1),
                  (0, 3, "", 0), (0, 1, "a", 10), (1, 2, "a", 0), (2, 4, "ab", 0)]
        wanted = ([("a", 1), ("b", 5)], [("", 0, 8), ("a", 0, 1), ("a", 2, 7), ("a", 10, 6), ("ab", 0, 2)])
        self.assertEqual(tally(strips), wanted)
        self.assertEqual(tally(strips[::-1]), wanted)

    def test_paid_and_borne_of_one_name_are_two(self):
        self.assertEqual(tally([(0, 2, "low", -1), (2, 3, "low", 0)]), ([("low", 2)], [("low", 0, 1)]))
        self.assertEqual(tally([(0, 2, "low", -1)]), ([("low", 2)], []))
        self.assertEqual(tally([(0, 2, "", 0)]), ([], [("", 0, 2)]))

    def test_great_numbers(self):
        most = 10**12 - 1
        strips = [(0, most, "low", -1)] * 300 + [(1, most, "low", 3)] * 2
        self.assertEqual(tally(strips), ([("low", 300 * most)], [("low", 3, 2 * most - 2)]))

    def test_against_own_sums(self):
        for chooser, covers, losses, roll in some_rolls(55, 60):
            strips = []
            for one in losses:
                self.assertEqual(tally(roll.told(one[0])), by_hand(roll.told(one[0])))
                strips += roll.told(one[0])
            copy = list(strips)
            self.assertEqual(tally(strips), by_hand(copy))
            self.assertEqual(strips, copy)

    def test_told_lists_are_the_askers_own(self):
        strips = [(0, 4, "b", -1), (4, 9, "a", 1)]
        told = tally(strips)
        told[0].clear()
        told[1].append(("x", 0, 1))
        self.assertEqual(tally(strips), ([("b", 4)], [("a", 1, 5)]))


class TestBill(unittest.TestCase):
    def test_both_ends(self):
        roll = Roll(Book([cover("low", [Limit("loss", 5)])]))
        for number, day in enumerate((3, 4, 7, 7, 9)):
            roll.enter(*loss(10 ** (number + 1), number, day))
        self.assertEqual(bill(roll, 0, 10**6), ([], []))
        roll.close(7)
        self.assertEqual(bill(roll, 0, 10**6), ([("low", 20)], [("low", 0, 11110 - 20)]))
        roll.close(9)
        for first, last, most in ((3, 3, 10), (4, 4, 100), (3, 4, 110), (4, 7, 11100), (5, 6, 0), (7, 7, 11000),
                                  (8, 8, 0), (7, 8, 11000), (9, 9, 100000), (0, 2, 0), (10, 10**6, 0), (0, 3, 10)):
            told = bill(roll, first, last)
            self.assertEqual(sum(cents for name, cents in told[0]) + sum(row[2] for row in told[1]), most)

    def test_a_first_day_above_the_last_one(self):
        roll = Roll(Book([cover("low")]))
        roll.enter(*loss(5, 1, 4))
        roll.close(5)
        for first, last in ((5, 4), (5, 3), (4, 3), (10**6, 0), (4, 0)):
            self.assertEqual(bill(roll, first, last), ([], []))
        self.assertEqual(bill(roll, 4, 4), ([("low", 5)], []))

    def test_against_own_sums(self):
        for chooser, covers, losses, roll in some_rolls(56, 80):
            reckoned = Reckoned(covers, losses)
            for turn in range(6):
                first, last = chooser.choice(losses)[1], chooser.choice(losses)[1]
                strips = [s for one in losses if first <= one[1] <= last for s in reckoned.strips[one[0]]]
                self.assertEqual(bill(roll, first, last), by_hand(strips))
                middle = chooser.choice(losses)[1]
                whole = bill(roll, 0, 10**6)
                self.assertEqual(added(bill(roll, 0, middle), bill(roll, middle + 1, 10**6)), whole)
            total = sum(cents for name, cents in whole[0]) + sum(row[2] for row in whole[1])
            self.assertEqual(total, sum(one[5] for one in losses))

    def test_no_cover_is_paid_for_more_in_a_year_than_its_limit_by_year(self):
        full = 0
        for chooser, covers, losses, roll in some_rolls(57, 120):
            for year in range(3):
                paid = dict(bill(roll, 365 * year, 365 * year + 364)[0])
                for c in covers:
                    for clause in c.clauses:
                        if isinstance(clause, Limit) and clause.by == "year":
                            self.assertLessEqual(paid.get(c.name, 0), clause.most)
                            full += paid.get(c.name, 0) == clause.most
        self.assertGreater(full, 10)

    def test_asking_changes_nothing(self):
        for chooser, covers, losses, roll in some_rolls(58, 5):
            whole, settled = bill(roll, 0, 10**6), roll.settled()
            told = bill(roll, 0, 500)
            told[0].append(("x", 1))
            told[1].clear()
            self.assertEqual(bill(roll, 0, 10**6), whole)
            self.assertEqual(roll.settled(), settled)
            self.assertEqual(roll.closed, 1000)


if __name__ == "__main__":
    unittest.main()
