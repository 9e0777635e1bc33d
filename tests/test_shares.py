"""[61]: houses and the numbers of paid cents. [62]: who bears. [13]: no share is off by a whole cent."""

import random
import unittest
from collections import Counter

from coverroll.books import Book
from coverroll.clauses import Layer, Limit, Own
from coverroll.conditions import Condition
from coverroll.counts import Counts
from coverroll.covers import Cover
from coverroll.settling import settle
from coverroll.shares import borne_by, dealt_to
from tests.making import bearer_of, by_cents, cover, house_of, loss, some_covers, some_houses, some_loss, summed

FAR = 10**59


def pairs_of(houses, carried):
    """How many of the carried cents each house has, in the order of the houses, those with none left out."""
    counted = Counter(carried)
    return [(house, counted[house]) for house in houses if counted[house]]


def bearers_of(book, strips, bases):
    """Who bears each single cent of a loss."""
    numbers = dict(bases)
    bearers = []
    for name, k in by_cents(strips):
        if k == -1:
            bearers.append(bearer_of(book.named(name), numbers.get(name, 0)))
            numbers[name] = numbers.get(name, 0) + 1
        else:
            bearers.append(("", name, k))
    return bearers


def settled_losses(seed, many):
    chooser = random.Random(seed)
    for turn in range(many):
        book = Book(some_covers(chooser, turn % 5))
        counts = Counts()
        for number in range(chooser.randint(0, 2)):
            settle(book, counts, some_loss(chooser, number, (0, 400)))
        one = some_loss(chooser, 9, (0, 400))
        bases = {c.name: chooser.choice((0, 1, 5, 7, 13, 10**40 + 3)) for c in book.covers if chooser.random() < 0.7}
        yield chooser, book, settle(book, counts, one), bases, one[5]


class TestDealtTo(unittest.TestCase):
    def test_by_hand(self):
        one = cover("low", houses=[("acme", 1), ("self", 2), ("beta", 3)])
        self.assertEqual([house_of(one, n) for n in range(6)], ["beta", "self", "beta", "acme", "self", "beta"])
        self.assertEqual(dealt_to(one, 0, 0, 6), [("acme", 1), ("self", 2), ("beta", 3)])
        self.assertEqual(dealt_to(one, 0, 0, 1), [("beta", 1)])
        self.assertEqual(dealt_to(one, 0, 1, 3), [("self", 1), ("beta", 1)])
        self.assertEqual(dealt_to(one, 3, 0, 2), [("acme", 1), ("self", 1)])
        self.assertEqual(dealt_to(one, 5, 0, 2), [("beta", 2)])
        self.assertEqual(dealt_to(one, 5, 1, 2), [("beta", 1)])
        self.assertEqual(dealt_to(one, 6 * FAR, 3, 4), [("acme", 1)])
        self.assertEqual(dealt_to(one, 6 * FAR + 1, 0, 6 * 10**11),
            [("acme", 10**11), ("self", 2 * 10**11), ("beta", 3 * 10**11)])

    def test_the_house_of_the_covers_name(self):
        self.assertEqual(dealt_to(cover("low"), 7, 2, 9), [("low", 7)])
        self.assertEqual(dealt_to(cover("low", houses=[("self", 5)]), 7, 2, 9), [("self", 7)])

    def test_against_single_cents(self):
        chooser = random.Random(61)
        for turn in range(150):
            one = cover("low", houses=some_houses(chooser))
            round_ = len(one.deal.wheel)
            for base in (0, 1, round_ - 1, round_, round_ + 1, 3 * round_, FAR, FAR - FAR % round_, FAR + 7):
                for lo in {0, 1, round_ - 1, round_, round_ + 1, chooser.randint(0, 30)}:
                    hi = lo + chooser.choice((0, 1, round_ - 1, round_, round_ + 1, chooser.randint(0, 30)))
                    carried = [house_of(one, base + cent) for cent in range(lo, hi)]
                    self.assertEqual(dealt_to(one, base, lo, hi), pairs_of(one.houses, carried))

    def test_lo_equal_to_hi(self):
        one = cover("low", houses=[("acme", 1), ("self", 2), ("beta", 3)])
        for base in (0, 5, 6, FAR):
            for lo in (0, 1, 6, 10**12):
                self.assertEqual(dealt_to(one, base, lo, lo), [])

    def test_base_and_lo_come_to_one_number(self):
        one = cover("low", houses=[("acme", 3), ("beta", 4), ("carl", 4)])
        for shift in range(12):
            self.assertEqual(dealt_to(one, 20 - shift, 5 + shift, 9 + shift), dealt_to(one, 25, 0, 4))

    def test_no_share_is_off_by_a_whole_cent(self):
        one = cover("low", houses=[("acme", 3), ("beta", 4), ("carl", 6)])
        for m in range(200):
            told = dict(dealt_to(one, 0, 0, m))
            for house, weight in (("acme", 3), ("beta", 4), ("carl", 6)):
                self.assertIn(told.get(house, 0), (m * weight // 13, -(-m * weight // 13)))

    def test_the_cover_stays_and_what_is_told_is_the_askers_own(self):
        one = cover("low", houses=[("acme", 1), ("beta", 3)])
        told = dealt_to(one, 0, 0, 9)
        told.clear()
        self.assertEqual(one.houses, ["acme", "beta"])
        self.assertEqual(one.deal.weights, [1, 3])
        self.assertEqual(dealt_to(one, 0, 0, 9), [("acme", 2), ("beta", 7)])
        self.assertTrue(all(isinstance(pair, tuple) for pair in dealt_to(one, 0, 0, 9)))


class TestBorneBy(unittest.TestCase):
    def book(self):
        low = cover("low", [Own("event", 2), Limit("year", 7)], houses=[("acme", 1), ("self", 1)])
        high = cover("high", [Layer("loss", 4, 12)], houses=[("beta", 2), ("acme", 1)])
        return Book([low, high])

    def test_by_hand(self):
        book = self.book()
        strips = settle(book, Counts(), loss(15))
        self.assertEqual(strips, [(0, 2, "low", 0), (2, 9, "low", -1), (9, 12, "high", -1), (12, 15, "low", 1)])
        self.assertEqual(borne_by(book, strips, {}, 0, 15), [
            ("", "low", 0, 2), ("", "low", 1, 3), ("", "low", 2, 3),
            ("acme", "high", -1, 1), ("acme", "low", -1, 4), ("beta", "high", -1, 2),
        ])
        self.assertEqual(borne_by(book, strips, {"low": 1}, 0, 15), [
            ("", "low", 0, 2), ("", "low", 1, 3), ("", "low", 2, 4),
            ("acme", "high", -1, 1), ("acme", "low", -1, 3), ("beta", "high", -1, 2),
        ])
        self.assertEqual(borne_by(book, strips, {"high": 1, "other": 9}, 9, 12),
            [("acme", "high", -1, 1), ("beta", "high", -1, 2)])
        self.assertEqual(borne_by(book, strips, {"high": 2}, 9, 10), [("acme", "high", -1, 1)])
        self.assertEqual(borne_by(book, strips, {}, 9, 10), [("beta", "high", -1, 1)])
        self.assertEqual(borne_by(book, strips, {}, 14, 15), [("", "low", 1, 1)])

    def test_self_has_the_number_of_the_covers_clauses(self):
        for many in range(5):
            book = Book([cover("low", [Own("loss", 0)] * many, houses=[("self", 1)])])
            self.assertEqual(borne_by(book, [(0, 5, "low", -1)], {}, 1, 4), [("", "low", many, 3)])

    def test_no_cover_asked(self):
        self.assertEqual(borne_by(Book([]), [(0, 5, "", 0)], {}, 1, 4), [("", "", 0, 3)])

    def test_none_between(self):
        book = self.book()
        strips = settle(book, Counts(), loss(15))
        for cent in range(16):
            self.assertEqual(borne_by(book, strips, {"low": 3}, cent, cent), [])

    def test_one_house_by_two_covers_is_two_rows(self):
        book = Book([Cover(name, Condition(), [Layer("loss", lo, hi)], [("acme", 1)]) for name, lo,
            hi in (("b", 0, 3), ("a", 3, 9))])
        self.assertEqual(borne_by(book, settle(book, Counts(), loss(9)), {}, 0, 9), [("acme", "a", -1, 6), ("acme", "b", -1, 3)])

    def test_a_cover_that_pays_several_stretches(self):
        book = Book([cover("b", [Layer("loss", 3, 6)]), cover("a", houses=[("acme", 1), ("beta", 1), ("carl", 1)])])
        strips = settle(book, Counts(), loss(10))
        self.assertEqual(strips, [(0, 3, "a", -1), (3, 6, "b", -1), (6, 10, "a", -1)])
        self.assertEqual(borne_by(book, strips, {"a": 2}, 6, 7), [("carl", "a", -1, 1)])
        self.assertEqual(borne_by(book, strips, {"a": 1}, 2, 7), [("acme", "a", -1, 1), ("b", "b", -1, 3), ("beta", "a", -1, 1)])

    def test_against_single_cents(self):
        sorts = set()
        for chooser, book, strips, bases, cents in settled_losses(62, 400):
            bearers = bearers_of(book, strips, bases)
            sorts |= {(house == "", name == "", k == -1) for house, name, k in bearers}
            for turn in range(8):
                lo, hi = sorted((chooser.randint(0, cents), chooser.randint(0, cents)))
                told = borne_by(book, strips, bases, lo, hi)
                self.assertEqual(told, summed(bearers[lo:hi]))
                self.assertEqual(told, sorted(told))
                self.assertEqual(sum(row[3] for row in told), hi - lo)
            self.assertEqual(borne_by(book, strips, bases, 0, cents), summed(bearers))
        self.assertEqual(sorts, {(False, False, True), (True, True, False), (True, False, False)})

    def test_strips_of_one_cover_that_begin_above_the_ground(self):
        book = Book([cover("b", [Layer("loss", 5, 7)]),
            cover("a", [Own("loss", 2)], houses=[("acme", 1), ("beta", 1), ("carl", 2)])])
        strips = settle(book, Counts(), loss(12))
        self.assertEqual(strips, [(0, 2, "b", 0), (2, 5, "a", -1), (5, 7, "b", -1), (7, 12, "a", -1)])
        for base in range(5):
            bearers = bearers_of(book, strips, {"a": base})
            for lo in range(13):
                for hi in range(lo, 13):
                    self.assertEqual(borne_by(book, strips, {"a": base}, lo, hi), summed(bearers[lo:hi]))

    def test_strips_of_many_covers_in_turn(self):
        chooser = random.Random(65)
        for turn in range(100):
            book = Book(some_covers(chooser, 4))
            strips, lo = [], 0
            for k in range(chooser.randint(1, 9)):
                name = chooser.choice(("dd", "b", "cc", "a"))
                hi = lo + chooser.randint(1, 9)
                strips.append((lo, hi, name, chooser.choice((-1, -1, 0, 1))))
                lo = hi
            bearers = bearers_of(book, strips, {"a": 3, "cc": 8})
            for times in range(6):
                first, upto = sorted((chooser.randint(0, lo), chooser.randint(0, lo)))
                self.assertEqual(borne_by(book, strips, {"a": 3, "cc": 8}, first, upto), summed(bearers[first:upto]))

    def test_neighbouring_parts_add_up_to_both(self):
        for chooser, book, strips, bases, cents in settled_losses(63, 100):
            lo, middle, hi = sorted(chooser.randint(0, cents) for turn in range(3))
            both = Counter()
            for part in (borne_by(book, strips, bases, lo, middle), borne_by(book, strips, bases, middle, hi)):
                both.update({row[:3]: row[3] for row in part})
            self.assertEqual(borne_by(book, strips, bases, lo, hi), sorted(key + (n,) for key, n in both.items()))

    def test_great_numbers(self):
        most = 10**12 - 1
        book = Book([cover("low", houses=[("acme", 1), ("self", 2)])])
        told = borne_by(book, [(0, most, "low", -1)], {"low": 3 * FAR}, 0, most)
        self.assertEqual(told, [("", "low", 0, 2 * most // 3), ("acme", "low", -1, most // 3)])

    def test_strips_and_bases_stay(self):
        for chooser, book, strips, bases, cents in settled_losses(64, 40):
            copies = (list(strips), dict(bases))
            told = borne_by(book, strips, bases, 0, cents)
            self.assertEqual((strips, bases), copies)
            wanted = list(told)
            told.clear()
            self.assertEqual(borne_by(book, strips, bases, 0, cents), wanted)
            self.assertTrue(all(isinstance(row, tuple) and len(row) == 4 for row in wanted))


if __name__ == "__main__":
    unittest.main()
