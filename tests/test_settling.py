"""[42]: numbers. [43], [6]: strips. [44]: the example. [45]: settling. [7], [46]: what comes of it. [5], [3]."""

import random
import unittest

from coverroll.books import Book
from coverroll.clauses import Layer, Limit, Own
from coverroll.conditions import CauseIs, Condition, Not
from coverroll.counts import Counts
from coverroll.covers import Cover
from coverroll.settling import numbers_of, settle, strips_of
from tests.making import (
    WAYS, by_cents, by_the_rule, count_by_the_rule, cover, have, key_of, lefts_of, loss, some_cover,
)

MOST = 10**12 - 1
FAR = 10**60 - 1


def paid_cents(strips):
    return {cent for lo, hi, name, k in strips if k == -1 for cent in range(lo, hi)}


def some_losses(chooser, many):
    for number in chooser.sample(range(3 * many), many):
        day = chooser.choice((0, 364, 365, 729, 730))
        names = [chooser.choice(pair) for pair in (("storm", "flood", "storm.a"), ("roof", "wall"), ("hail", "fire"))]
        yield loss(chooser.choice((1, 2, chooser.randint(1, 15), chooser.randint(1, 60))), number, day, *names)


def some_books(seed, many):
    chooser = random.Random(seed)
    for turn in range(many):
        covers = [some_cover(chooser, name) for name in ("dd", "b", "cc", "a")[:turn % 5]]
        yield chooser, covers, list(some_losses(chooser, 12))


class TestNumbers(unittest.TestCase):
    def test_all_four_ways_beside_others(self):
        one = loss(5, number=7, day=800, event="storm.acme", thing="roof")
        for kind in (lambda by: Own(by, 5), lambda by: Layer(by, 1, 5), lambda by: Limit(by, 5)):
            low = cover("low", [kind(by) for by in WAYS])
            counts = Counts()
            self.assertEqual(numbers_of(low, counts, one), [0, 0, 0, 0])
            keys = ("storm.acme", "roof", 2, 7, "storm", "acme", "wall", "2", 800, 1, 3, 6, 8, "7", "hail", 5)
            number = 1
            wanted = {}
            for name in ("low", "high", "lo"):
                for k in range(5):
                    for key in keys:
                        counts.add(name, k, key, number)
                        wanted[(name, k, key)] = number
                        number += number % 7 + 1
            self.assertEqual(numbers_of(low, counts, one), [
                wanted[("low", 0, "storm.acme")], wanted[("low", 1, "roof")], wanted[("low", 2, 2)], wanted[("low", 3, 7)],
            ])

    def test_the_order_is_that_of_the_clauses(self):
        low = cover("low", [Limit("loss", 5), Own("year", 5), Limit("loss", 9)])
        counts = Counts()
        counts.add("low", 0, 3, 10)
        counts.add("low", 1, 0, FAR)
        counts.add("low", 2, 3, 30)
        self.assertEqual(numbers_of(low, counts, loss(5, number=3)), [10, FAR, 30])
        self.assertEqual(numbers_of(low, counts, loss(5, number=4)), [0, FAR, 0])
        self.assertEqual(numbers_of(low, counts, loss(5, number=3, day=365)), [10, 0, 30])

    def test_without_clauses(self):
        self.assertEqual(numbers_of(cover("low"), Counts(), loss(5)), [])


class TestExample(unittest.TestCase):
    FIRST = [(0, 100, "low", 0), (100, 600, "low", -1), (600, 900, "high", -1), (900, 1000, "low", 1)]

    def book(self):
        low = cover("low", [Own("event", 100), Limit("year", 500)])
        return Book([low, cover("high", [Layer("event", 300, 900)])])

    def test_three_losses(self):
        counts = Counts()
        book = self.book()
        self.assertEqual(settle(book, counts, loss(1000, 1)), self.FIRST)
        self.assertEqual(strips_of(book, counts, loss(200, 2)), [(0, 200, "low", 1)])
        other = loss(400, 3, event="flood")
        wanted = [(0, 100, "low", 0), (100, 300, "low", 1), (300, 400, "high", -1)]
        self.assertEqual(strips_of(book, counts, other), wanted)
        self.assertEqual(settle(book, counts, loss(200, 2)), [(0, 200, "low", 1)])
        self.assertEqual(settle(book, counts, other), wanted)

    def test_in_the_other_order(self):
        counts = Counts()
        book = self.book()
        settle(book, counts, loss(1000, 1))
        self.assertEqual(settle(book, counts, loss(400, 3, 364, "flood"))[2], (300, 400, "high", -1))
        self.assertEqual(settle(book, counts, loss(200, 2)), [(0, 200, "low", 1)])
        self.assertEqual(settle(book, counts, loss(200, 4, 365)), [(0, 200, "low", -1)])


class TestStrips(unittest.TestCase):
    def strips(self, covers, one, counts=None):
        return strips_of(Book(covers), counts or Counts(), one)

    def test_no_cover_asked(self):
        never = Not(Condition())
        for covers in ([], [cover("low", condition=never)], [cover("low", [Own("loss", 5)], never, waits=True)]):
            for cents in (1, 7, MOST):
                self.assertEqual(self.strips(covers, loss(cents)), [(0, cents, "", 0)])

    def test_one_cover(self):
        self.assertEqual(self.strips([cover("low")], loss(9)), [(0, 9, "low", -1)])
        self.assertEqual(self.strips([cover("low", [Own("loss", 9)])], loss(9)), [(0, 9, "low", 0)])
        self.assertEqual(self.strips([cover("low", [Own("loss", 4)])], loss(9)), [(0, 4, "low", 0), (4, 9, "low", -1)])
        layered = [cover("low", [Own("year", 0), Layer("loss", 3, 6)])]
        self.assertEqual(self.strips(layered, loss(9)), [(0, 3, "low", 1), (3, 6, "low", -1), (6, 9, "low", 1)])
        self.assertEqual(self.strips(layered, loss(3)), [(0, 3, "low", 1)])
        self.assertEqual(self.strips(layered, loss(4)), [(0, 3, "low", 1), (3, 4, "low", -1)])

    def test_the_first_of_those_limits_of_which_the_least_was_left(self):
        several = [Limit("year", 9), Limit("event", 5), Limit("thing", 5), Limit("loss", 6)]
        self.assertEqual(self.strips([cover("low", several)], loss(9)), [(0, 5, "low", -1), (5, 9, "low", 1)])
        self.assertEqual(self.strips([cover("low", several[::-1])], loss(9)), [(0, 5, "low", -1), (5, 9, "low", 1)])
        counts = Counts()
        counts.add("low", 0, 0, 4)
        self.assertEqual(self.strips([cover("low", several)], loss(9), counts), [(0, 5, "low", -1), (5, 9, "low", 0)])
        counts.add("low", 2, "roof", 1)
        self.assertEqual(self.strips([cover("low", several)], loss(9), counts), [(0, 4, "low", -1), (4, 9, "low", 2)])

    def test_a_limit_of_nought_and_one_that_is_just_full(self):
        self.assertEqual(self.strips([cover("low", [Own("loss", 0), Limit("loss", 0)])], loss(9)), [(0, 9, "low", 1)])
        self.assertEqual(self.strips([cover("low", [Limit("loss", 9)])], loss(9)), [(0, 9, "low", -1)])
        self.assertEqual(self.strips([cover("low", [Limit("loss", 8)])], loss(9)), [(0, 8, "low", -1), (8, 9, "low", 0)])
        counts = Counts()
        counts.add("low", 0, 0, 8)
        full = [cover("low", [Limit("year", 8)]), cover("high", [Layer("loss", 2, 4)])]
        self.assertEqual(self.strips(full, loss(9), counts), [(0, 2, "low", 0), (2, 4, "high", -1), (4, 9, "low", 0)])

    def test_a_waiting_cover_ahead_of_a_firm_one(self):
        waiting = cover("late", [Own("loss", 2), Limit("loss", 5)], waits=True)
        firm = cover("firm", [Layer("loss", 4, 6)])
        told = [(0, 2, "firm", 0), (2, 4, "late", -1), (4, 6, "firm", -1), (6, 9, "late", -1), (9, 12, "firm", 0)]
        self.assertEqual(self.strips([waiting, firm], loss(12)), told)
        self.assertEqual(self.strips([firm, waiting], loss(12)), told)

    def test_where_the_firm_one_is_not_asked_the_waiting_one_is_first(self):
        covers = [cover("firm", condition=CauseIs("fire")), cover("late", [Own("loss", 2)], waits=True)]
        self.assertEqual(self.strips(covers, loss(5)), [(0, 2, "late", 0), (2, 5, "late", -1)])

    def test_the_lowest_cents_of_several_stretches(self):
        covers = [cover("b", [Layer("loss", 3, 6)]), cover("c", [Layer("loss", 8, 9)]), cover("a", [Limit("loss", 6)])]
        told = [(0, 3, "a", -1), (3, 6, "b", -1), (6, 8, "a", -1), (8, 9, "c", -1), (9, 10, "a", -1), (10, 20, "b", 0)]
        self.assertEqual(self.strips(covers, loss(20)), told)

    def test_what_a_limit_shuts_out_is_paid_by_later_ones(self):
        covers = [cover("low", [Own("loss", 2), Limit("loss", 3)]), cover("high", [Layer("loss", 0, 9)])]
        told = [(0, 2, "high", -1), (2, 5, "low", -1), (5, 9, "high", -1), (9, 12, "low", 1)]
        self.assertEqual(self.strips(covers, loss(12)), told)

    def test_great_numbers(self):
        covers = [cover("low", [Own("event", 10**11), Limit("year", MOST)]), cover("high", [Own("loss", 5)])]
        told = [(0, 5, "low", 0), (5, 10**11, "high", -1), (10**11, MOST, "low", -1)]
        self.assertEqual(self.strips(covers, loss(MOST)), told)
        counts = Counts()
        counts.add("low", 0, "storm", FAR)
        counts.add("low", 1, 0, MOST - 1)
        self.assertEqual(self.strips(covers, loss(MOST), counts), [(0, 1, "low", -1), (1, 5, "low", 1), (5, MOST, "high", -1)])

    def test_kinds(self):
        for covers in ([], [cover("low", [Own("loss", 2), Limit("loss", 3)])]):
            told = self.strips(covers, loss(9))
            self.assertIsInstance(told, list)
            self.assertTrue(all(isinstance(strip, tuple) and len(strip) == 4 for strip in told))


class TestByTheRule(unittest.TestCase):
    def test_losses_one_behind_another_cent_by_cent(self):
        seen = set()
        for chooser, covers, losses in some_books(1, 500):
            book, counts, kept = Book(covers), Counts(), {}
            for one in losses:
                wanted = by_the_rule(covers, kept, one)
                for c in covers:
                    numbers = [have(kept, c, k, one) for k in range(len(c.clauses))]
                    self.assertEqual(numbers_of(c, counts, one), numbers)
                told = strips_of(book, counts, one)
                self.end_to_end(told, one[5])
                self.assertEqual(by_cents(told), wanted)
                self.assertEqual(strips_of(book, counts, one), told)
                self.assertEqual(settle(book, counts, one), told)
                count_by_the_rule(covers, kept, one, wanted)
                self.check_limits(covers, kept, one, wanted)
                self.assertEqual({place: counts.have(*place) for place in kept}, kept)
                seen |= {(k, "paid" if k == -1 else "borne") for name, k in wanted}
        self.assertEqual(seen, {(-1, "paid"), (0, "borne"), (1, "borne"), (2, "borne"), (3, "borne")})

    def end_to_end(self, strips, cents):
        self.assertEqual([strip[0] for strip in strips] + [cents], [0] + [strip[1] for strip in strips])
        self.assertTrue(all(strip[0] < strip[1] for strip in strips))
        self.assertTrue(all(one[2:] != other[2:] for one, other in zip(strips, strips[1:])))

    def check_limits(self, covers, kept, one, wanted):
        """[7], behind the settling of the loss."""
        for c in covers:
            for left, k in lefts_of(c, kept, one):
                self.assertGreaterEqual(left, 0)
                if (c.name, k) in wanted:
                    self.assertEqual(left, 0)


class TestSettling(unittest.TestCase):
    def test_each_clause_of_each_cover_that_was_asked_and_no_other(self):
        clauses = [Own("event", 3), Layer("thing", 0, 4), Limit("year", 50), Limit("loss", 1), Own("year", 5), Own("loss", 1)]
        covers = [
            cover("low", clauses), cover("fire", clauses, CauseIs("fire")), cover("late", clauses, waits=True),
            cover("none"), cover("high", [Limit("event", 0), Own("loss", 99), Limit("thing", 9)]),
        ]
        counts = Counts()
        one = loss(10, number=7, day=800)
        told = settle(Book(covers), counts, one)
        self.assertEqual(told, [(0, 10, "none", -1)])
        for name in ("low", "late"):
            numbers = [counts.have(name, k, key_of(clause.by, one)) for k, clause in enumerate(clauses)]
            self.assertEqual(numbers, [10, 10, 0, 0, 10, 10])
        self.assertEqual([counts.have("fire", k, key_of(c.by, one)) for k, c in enumerate(clauses)], [0] * 6)
        self.assertEqual([counts.have("high", k, key) for k, key in enumerate(("storm", 7, "roof"))], [0, 10, 0])
        self.assertEqual([counts.have("high", k, key) for k, key in ((0, 7), (1, "storm"), (2, "storm"), (3, 7))], [0] * 4)

    def test_limits_count_what_their_own_cover_pays(self):
        covers = [
            cover("low", [Limit("year", 4), Own("event", 2)]), cover("high", [Limit("event", 3), Limit("loss", 9)]),
            cover("late", [Limit("thing", 5)], waits=True),
        ]
        counts = Counts()
        one = loss(20, number=7)
        told = settle(Book(covers), counts, one)
        self.assertEqual(by_cents(told), [("high", -1)] * 2 + [("low", -1)] * 4 + [("high", -1)] + [("late", -1)] * 5 + [("low", 0)] * 8)
        self.assertEqual([counts.have("low", 0, 0), counts.have("low", 1, "storm")], [4, 20])
        self.assertEqual([counts.have("high", 0, "storm"), counts.have("high", 1, 7)], [3, 3])
        self.assertEqual(counts.have("late", 0, "roof"), 5)

    def test_strips_alone_count_nothing(self):
        covers = [cover("low", [Limit("year", 4), Own("event", 2)])]
        counts = Counts()
        book = Book(covers)
        first = strips_of(book, counts, loss(9))
        for turn in range(3):
            self.assertEqual(strips_of(book, counts, loss(9)), first)
            self.assertEqual(numbers_of(covers[0], counts, loss(9)), [0, 0])
        self.assertEqual(settle(book, counts, loss(9)), first)
        self.assertEqual(numbers_of(covers[0], counts, loss(9)), [4, 9])

    def test_no_cover_asked_counts_nothing(self):
        counts = Counts()
        covers = [cover("low", [Own("event", 2), Limit("event", 2)], CauseIs("fire"))]
        self.assertEqual(settle(Book(covers), counts, loss(9)), [(0, 9, "", 0)])
        self.assertEqual(numbers_of(covers[0], counts, loss(9)), [0, 0])

    def test_ground_clauses_count_each_for_itself(self):
        counts = Counts()
        book = Book([cover("low", [Own("loss", 100), Own("year", 300)])])
        told = [settle(book, counts, loss(200, number)) for number in range(4)]
        later = [(0, 100, "low", 0), (100, 200, "low", -1)]
        self.assertEqual(told, [[(0, 100, "low", 0), (100, 200, "low", 1)], later, later, later])

    def test_a_limit_by_year(self):
        counts = Counts()
        book = Book([cover("low", [Limit("year", 100)])])
        self.assertEqual(settle(book, counts, loss(150, 0)), [(0, 100, "low", -1), (100, 150, "low", 0)])
        self.assertEqual(settle(book, counts, loss(150, 1, 364)), [(0, 150, "low", 0)])
        self.assertEqual(settle(book, counts, loss(60, 2, 365)), [(0, 60, "low", -1)])
        self.assertEqual(settle(book, counts, loss(60, 3, 700)), [(0, 40, "low", -1), (40, 60, "low", 0)])

    def test_a_change_of_told_strips_changes_no_later_answer(self):
        for covers in ([], [cover("low", [Own("loss", 2), Limit("loss", 3)]), cover("high")]):
            book, counts = Book(covers), Counts()
            first = strips_of(book, counts, loss(9, 0))
            for told in (strips_of(book, counts, loss(9, 0)), settle(book, counts, loss(9, 0))):
                told[0] = (0, 9, "other", 5)
                told.append((9, 10, "more", -1))
                self.assertEqual(strips_of(book, counts, loss(9, 1)), first)
                told.clear()
                self.assertEqual(strips_of(book, counts, loss(9, 1)), first)

    def test_what_is_handed_in_stays(self):
        for chooser, covers, losses in some_books(2, 40):
            book, counts = Book(covers), Counts()
            shown = [(c.name, [clause.words() for clause in c.clauses], c.houses) for c in covers]
            for one in losses:
                settle(book, counts, one)
            self.assertEqual(book.covers, covers)
            self.assertEqual([(c.name, [clause.words() for clause in c.clauses], c.houses) for c in covers], shown)

    def test_one_book_in_two_counts(self):
        book = Book([cover("low", [Limit("year", 5)])])
        one, other = Counts(), Counts()
        settle(book, one, loss(9))
        self.assertEqual(strips_of(book, other, loss(9)), [(0, 5, "low", -1), (5, 9, "low", 0)])
        self.assertEqual(strips_of(book, one, loss(9, 1)), [(0, 9, "low", 0)])

    def test_a_copy_is_settled_by_itself(self):
        book = Book([cover("low", [Limit("year", 5), Own("event", 1)])])
        counts = Counts()
        copy = counts.copied()
        settle(book, copy, loss(9))
        self.assertEqual(numbers_of(book.covers[0], counts, loss(9)), [0, 0])
        self.assertEqual(numbers_of(book.covers[0], copy, loss(9)), [5, 9])


class TestWhatComesOfIt(unittest.TestCase):
    def settled(self, covers, losses):
        """The counts behind all losses but the last one, and that last one."""
        counts = Counts()
        for one in losses[:-1]:
            settle(Book(covers), counts, one)
        return counts, losses[-1]

    def test_a_cover_put_in_leaves_no_cent_unpaid_that_was_paid(self):
        more = 0
        for chooser, covers, losses in some_books(3, 400):
            counts, one = self.settled(covers, losses[:chooser.randint(1, 5)])
            paid = paid_cents(strips_of(Book(covers), counts, one))
            new = some_cover(chooser, "new")
            for place in range(len(covers) + 1):
                now = paid_cents(strips_of(Book(covers[:place] + [new] + covers[place:]), counts, one))
                self.assertLessEqual(paid, now)
                more += len(now) - len(paid)
        self.assertGreater(more, 0)

    def test_a_limit_that_lets_more_by_leaves_no_cent_unpaid_that_was_paid(self):
        more = 0
        for chooser, covers, losses in some_books(4, 400):
            counts, one = self.settled(covers, losses[:chooser.randint(1, 5)])
            paid = paid_cents(strips_of(Book(covers), counts, one))
            for place, c in enumerate(covers):
                for k, clause in enumerate(c.clauses):
                    if isinstance(clause, Limit):
                        wider = Limit(clause.by, clause.most + chooser.randint(1, 20))
                        clauses = c.clauses[:k] + [wider] + c.clauses[k + 1:]
                        other = Cover(c.name, c.condition, clauses, None, c.waits)
                        now = paid_cents(strips_of(Book(covers[:place] + [other] + covers[place + 1:]), counts, one))
                        self.assertLessEqual(paid, now)
                        more += len(now) - len(paid)
        self.assertGreater(more, 0)

    def test_the_strips_of_a_lesser_loss_are_the_beginning_of_those_of_a_greater_one(self):
        for chooser, covers, losses in some_books(5, 300):
            counts, one = self.settled(covers, losses[:chooser.randint(1, 5)])
            book = Book(covers)
            amounts = [amount for c in covers for sort, amount in c.condition.marks() if sort == "cents"]
            whole = strips_of(book, counts, one)
            for cents in range(1, one[5]):
                if all((cents > amount) == (one[5] > amount) for amount in amounts):
                    cut = [(lo, min(hi, cents), name, k) for lo, hi, name, k in whole if lo < cents]
                    self.assertEqual(strips_of(book, counts, one[:5] + (cents,)), cut)


if __name__ == "__main__":
    unittest.main()
