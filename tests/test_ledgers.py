"""[63]: entering. [64]: closing and taking back. [65]: any order. [61], [62] over many losses. [54]. [6], [7]. [3]."""

import itertools
import random
import unittest
from collections import Counter

from coverroll.books import Book
from coverroll.clauses import Layer, Limit, Own
from coverroll.errors import Late, NoEntry, NotTold, Twice
from coverroll.ledgers import Ledger
from coverroll.rolls import Roll
from tests.making import (
    Case, Reckoned, cover, enter_rows, loss, some_covers, some_loss, some_rows, spoilt_backs, spoilt_losses,
)

LAST = 10**6


def small_book():
    low = cover("low", [Own("event", 2), Limit("year", 20)], houses=[("acme", 2), ("self", 1)])
    return Book([low, cover("high", [Layer("loss", 4, 40)], houses=[("beta", 1), ("acme", 1)])])


def filled(book, rows, closes=()):
    ledger = Ledger(book)
    enter_rows(ledger, rows)
    for day in closes:
        ledger.close(day)
    return ledger


def all_told(ledger):
    losses, backs = ledger.settled(), ledger.backs()
    told = [(ledger.strips(n), ledger.stands(n), ledger.bears(n), ledger.bears(n, 0, cents)) for n, d, e, t, c, cents in losses]
    return ledger.handled(), losses, backs, told, [(ledger.gave(row[0]), ledger.over(row[0])) for row in backs]


def reckoned_told(reckoned):
    losses, backs = reckoned.losses(), reckoned.backs()
    told = []
    for n, day, event, thing, cause, cents in losses:
        told.append((reckoned.strips[n], reckoned.stands(n), reckoned.bears(n), reckoned.bears(n, 0, cents)))
    gave = [(reckoned.gave(row[0]), reckoned.over[row[0]]) for row in backs]
    return [row[0] for row in reckoned.rows], losses, backs, told, gave


def some_ledgers(seed, many, days=range(0, 800, 40), rows=16):
    chooser = random.Random(seed)
    for turn in range(many):
        covers = some_covers(chooser, turn % 5)
        yield chooser, covers, some_rows(chooser, rows, days)


class TestEnter(Case):
    def test_tells_none(self):
        ledger = Ledger(small_book())
        self.assertIsNone(ledger.loss(1, 40, "storm", "roof", "hail", 1250))
        self.assertIsNone(ledger.back(2, 40, "storm", 1250))
        self.assertIsNone(ledger.back(0, 0, "a.b.c.d", 10**12 - 1))
        self.assertIsNone(ledger.back(10**9, LAST, "stormsto", 1))
        self.assertEqual(ledger.close(LAST), [0, 1, 2, 10**9])

    def test_each_thing_spoilt(self):
        ledger = Ledger(small_book())
        for closes in range(2):
            for one in spoilt_losses(loss(5, 7, 3)):
                self.refused(NoEntry, ledger.loss, *one)
            for one in spoilt_backs((7, 3, "storm", 5)):
                self.refused(NoEntry, ledger.back, *one)
            self.assertEqual(ledger.close(1), [])
        ledger.back(7, 3, "storm", 5)
        self.assertEqual(ledger.close(LAST), [7])

    def test_twice_of_a_loss_and_a_taking_back_either_first(self):
        ledger = filled(small_book(), [loss(5, 7, 3), (8, 3, "storm", 2), loss(5, 1, 30), (2, 30, "storm", 2)])
        for day in (None, 3, 20, 40):
            if day is not None:
                ledger.close(day)
            for number in (7, 8, 1, 2):
                self.refused(Twice, ledger.loss, *loss(9, number, 50), value=number)
                self.refused(Twice, ledger.back, number, 50, "flood", 9, value=number)
        self.assertEqual(ledger.handled(), [7, 8, 1, 2])

    def test_late(self):
        ledger = filled(small_book(), [], [5, 9, 2])
        for day in (0, 2, 5, 8, 9):
            self.refused(Late, ledger.loss, *loss(5, 7, day), value=9)
            self.refused(Late, ledger.back, 7, day, "storm", 5, value=9)
        ledger.loss(*loss(5, 7, 10))
        ledger.back(8, 10, "storm", 5)
        self.assertEqual(ledger.close(10), [7, 8])

    def test_ahead_of_the_first_close_nothing_is_late(self):
        ledger = filled(small_book(), [loss(5, 1, LAST), (2, 0, "storm", 3), loss(5, 3, 0), (4, LAST, "storm", 3)])
        self.assertEqual(ledger.close(0), [3, 2])

    def test_no_entry_ahead_of_twice_and_twice_ahead_of_late(self):
        ledger = filled(small_book(), [loss(5, 7, 3), (8, 30, "storm", 5)], [10])
        for number in (7, 8):
            for one in spoilt_losses(loss(5, number, 3)):
                self.refused(NoEntry, ledger.loss, *one)
            for one in spoilt_backs((number, 3, "storm", 5)):
                self.refused(NoEntry, ledger.back, *one)
            self.refused(Twice, ledger.loss, *loss(5, number, 3), value=number)
            self.refused(Twice, ledger.back, number, 3, "storm", 5, value=number)
        self.refused(Late, ledger.loss, *loss(5, 9, 3), value=10)
        self.refused(Late, ledger.back, 9, 3, "storm", 5, value=10)

    def test_what_was_refused_is_not_there_and_its_number_is_free(self):
        rows = [loss(30, 1, 3), (2, 3, "storm", 4)]
        ledger, fresh = filled(small_book(), rows, [3]), filled(small_book(), rows, [3])
        refused = [lambda n: ledger.loss(n, 3, "storm", "roof", "hail", 5),
            lambda n: ledger.loss(n, 9, "storm", "roof", "hail", 0),
                   lambda n: ledger.back(n, 3, "storm", 5), lambda n: ledger.back(n, 9, "storm", 0),
                   lambda n: ledger.loss(1, 9, "storm", "roof", "hail", 5), lambda n: ledger.back(2, 9, "storm", 5)]
        for number, call in enumerate(refused * 2, start=10):
            with self.assertRaises((NoEntry, Late, Twice)):
                call(number)
            self.assertEqual(all_told(ledger), all_told(fresh))
            row = loss(40, number, number) if number < 16 else (number, number, "storm", 3)
            enter_rows(ledger, [row])
            enter_rows(fresh, [row])
        self.assertEqual(ledger.close(12), [10, 11, 12])
        self.assertEqual(ledger.close(LAST), list(range(13, 22)))
        fresh.close(LAST)
        self.assertEqual(all_told(ledger), all_told(fresh))


class TestClose(Case):
    ROWS = [loss(30, 8, 3), loss(20, 9, 3), (1, 3, "storm", 25), (5, 3, "storm", 3),
            loss(9, 2, 4), (0, 4, "storm", 20), (30, 10, "storm", 100)]

    def test_losses_ahead_of_takings_back_and_both_by_numbers(self):
        wanted = reckoned_told(Reckoned(small_book().covers, self.ROWS))
        for several in itertools.islice(itertools.permutations(self.ROWS), 0, None, 53):
            ledger = filled(small_book(), several)
            self.assertEqual(ledger.close(10), [8, 9, 1, 5, 2, 0, 30])
            self.assertEqual(ledger.handled(), [8, 9, 1, 5, 2, 0, 30])
            self.assertEqual(ledger.settled(), [row for row in self.ROWS if len(row) == 6])
            self.assertEqual(ledger.backs(), [row for row in self.ROWS if len(row) == 4])
            self.assertEqual(all_told(ledger), wanted)

    def test_by_hand(self):
        ledger = filled(small_book(), self.ROWS, [3])
        self.assertEqual(ledger.gave(1), [(9, 0, 20), (8, 25, 30)])
        self.assertEqual(ledger.gave(5), [(8, 22, 25)])
        self.assertEqual([ledger.over(1), ledger.over(5)], [0, 0])
        self.assertEqual([ledger.stands(8), ledger.stands(9)], [22, 0])
        ledger.close(4)
        self.assertEqual(ledger.gave(0), [(2, 0, 9), (8, 11, 22)])
        self.assertEqual([ledger.stands(n) for n in (8, 9, 2)], [11, 0, 0])
        ledger.close(10)
        self.assertEqual(ledger.gave(30), [(8, 0, 11)])
        self.assertEqual(ledger.over(30), 89)
        self.assertEqual([ledger.bears(n) for n in (8, 9, 2)], [[], [], []])

    def test_days_one_by_one_twice_and_below(self):
        ledger = filled(small_book(), self.ROWS[::-1])
        told = [ledger.close(day) for day in (0, 2, 3, 3, 1, 4, 4, 3, 9, 10, 11)]
        self.assertEqual(told, [[], [], [8, 9, 1, 5], [], [], [2, 0], [], [], [], [30], []])
        self.assertEqual(ledger.handled(), [8, 9, 1, 5, 2, 0, 30])
        self.refused(Late, ledger.loss, *loss(5, 77, 11), value=11)

    def test_closed_moves_without_rows(self):
        ledger = Ledger(small_book())
        self.assertEqual(ledger.close(7), [])
        self.refused(Late, ledger.back, 1, 7, "storm", 5, value=7)
        self.assertEqual((ledger.handled(), ledger.settled(), ledger.backs()), ([], [], []))

    def test_what_is_no_day(self):
        ledger = filled(small_book(), self.ROWS)
        for times in range(2):
            ahead = all_told(ledger)
            for thing in (-1, LAST + 1, True, False, None, "3", 3.0, [3]):
                self.refused(NoEntry, ledger.close, thing)
                self.assertEqual(all_told(ledger), ahead)
            ledger.close(3)
        self.assertEqual(ledger.close(LAST), [2, 0, 30])

    def test_one_book_in_two_ledgers(self):
        book = small_book()
        one = filled(book, self.ROWS, [LAST])
        other = Ledger(book)
        self.assertEqual(all_told(other), ([], [], [], [], []))
        enter_rows(other, self.ROWS)
        other.close(LAST)
        self.assertEqual(all_told(other), all_told(one))


class TestTakingBack(Case):
    def test_an_event_without_losses(self):
        ledger = filled(small_book(), [(1, 3, "storm", 5), loss(9, 2, 4)], [3])
        self.assertEqual((ledger.gave(1), ledger.over(1)), ([], 5))
        ledger.close(4)
        self.assertEqual((ledger.gave(1), ledger.over(1), ledger.stands(2)), ([], 5, 9))

    def test_of_just_that_event(self):
        rows = [loss(9, 1, 1, "storm"), loss(8, 2, 1, "storm.acme"), loss(7, 3, 1, "acme"), (4, 2, "storm", 20),
                (5, 2, "storm.acme", 3), (6, 2, "acme.storm", 2), (7, 2, "stor", 2)]
        ledger = filled(small_book(), rows, [2])
        self.assertEqual([ledger.stands(n) for n in (1, 2, 3)], [0, 5, 7])
        self.assertEqual([ledger.over(n) for n in (4, 5, 6, 7)], [11, 0, 2, 2])
        self.assertEqual([ledger.gave(n) for n in (4, 5, 6, 7)], [[(1, 0, 9)], [(2, 5, 8)], [], []])

    def test_a_later_loss_stands_on_top_of_what_is_left(self):
        rows = [loss(9, 1, 1), (2, 1, "storm", 4), loss(6, 3, 2), (4, 2, "storm", 7), loss(5, 5, 3), (6, 4, "storm", 8)]
        ledger = filled(small_book(), rows, [9])
        self.assertEqual([ledger.gave(n) for n in (2, 4, 6)], [[(1, 5, 9)], [(3, 0, 6), (1, 4, 5)], [(5, 0, 5), (1, 1, 4)]])
        self.assertEqual([ledger.stands(n) for n in (1, 3, 5)], [1, 0, 0])

    def test_all_else_is_as_without_it(self):
        for chooser, covers, rows in some_ledgers(64, 60):
            losses = [row for row in rows if len(row) == 6]
            whole, alone = filled(Book(covers), rows, [900]), filled(Book(covers), losses, [900])
            self.assertEqual(whole.settled(), alone.settled())
            for one in losses:
                self.assertEqual(whole.strips(one[0]), alone.strips(one[0]))
                self.assertEqual(whole.bears(one[0], 0, one[5]), alone.bears(one[0]))
            foretold = [some_loss(chooser, 0, (950,))[1:] for turn in range(3)]
            self.assertEqual(whole.foretell(foretold), alone.foretell(foretold))

    def test_two_are_as_one_of_both_their_cents(self):
        for chooser, covers, rows in some_ledgers(65, 40, rows=8):
            losses = [row for row in rows if len(row) == 6]
            first, second = chooser.randint(1, 40), chooser.randint(1, 40)
            two = filled(Book(covers), losses + [(500, 850, "storm", first), (501, 850, "storm", second)], [900])
            one = filled(Book(covers), losses + [(500, 850, "storm", first + second)], [900])
            self.assertEqual([two.stands(row[0]) for row in losses], [one.stands(row[0]) for row in losses])
            self.assertEqual([two.bears(row[0]) for row in losses], [one.bears(row[0]) for row in losses])
            self.assertEqual(two.over(500) + two.over(501), one.over(500))

    def test_who_bears_what_stands_and_who_bore_the_pieces_come_to_the_whole(self):
        seen = 0
        for chooser, covers, rows in some_ledgers(66, 60):
            ledger = filled(Book(covers), rows, [900])
            borne = {row[0]: Counter() for row in ledger.settled()}
            for one in ledger.settled():
                borne[one[0]].update({row[:3]: row[3] for row in ledger.bears(one[0])})
            for back in ledger.backs():
                for number, lo, hi in ledger.gave(back[0]):
                    borne[number].update({row[:3]: row[3] for row in ledger.bears(number, lo, hi)})
                    seen += 1
            for one in ledger.settled():
                self.assertEqual(sorted(k + (n,) for k, n in borne[one[0]].items()), ledger.bears(one[0], 0, one[5]))
                if ledger.stands(one[0]) == 0:
                    self.assertEqual(ledger.bears(one[0]), [])
        self.assertGreater(seen, 100)


class TestByTheRule(unittest.TestCase):
    def test_all_that_is_asked(self):
        for chooser, covers, rows in some_ledgers(67, 200):
            closes = sorted(chooser.sample(range(800), 2)) + [800]
            told = all_told(filled(Book(covers), rows, closes))
            self.assertEqual(told, reckoned_told(Reckoned(covers, rows)))

    def test_bears_with_lo_and_hi(self):
        for chooser, covers, rows in some_ledgers(68, 40):
            ledger, reckoned = filled(Book(covers), rows, [800]), Reckoned(covers, rows)
            for one in reckoned.losses():
                lo, hi = sorted((chooser.randint(0, one[5]), chooser.randint(0, one[5])))
                self.assertEqual(ledger.bears(one[0], lo, hi), reckoned.bears(one[0], lo, hi))
                self.assertEqual(ledger.bears(one[0], lo=lo, hi=hi), reckoned.bears(one[0], lo, hi))
                self.assertEqual(ledger.bears(one[0], 0, 0), [])
                self.assertEqual(ledger.bears(one[0], hi=one[5]), reckoned.bears(one[0], 0, one[5]))
                below = min(lo, ledger.stands(one[0]))
                self.assertEqual(ledger.bears(one[0], below), reckoned.bears(one[0], below))

    def test_houses_share_an_event_over_many_losses(self):
        book = Book([cover("low", houses=[("acme", 3), ("beta", 4), ("self", 6)])])
        rows = [loss(1 + number % 5, number, number, ("storm", "flood")[number % 3 == 0]) for number in range(60)]
        rows += [(100 + number, 7 * number, "storm", 2) for number in range(9)]
        ledger = filled(book, rows, [100])
        for event in ("storm", "flood"):
            carried, paid = Counter(), 0
            for one in ledger.settled():
                if one[2] == event:
                    paid += one[5]
                    carried.update({row[0]: row[3] for row in ledger.bears(one[0], 0, one[5])})
                    for house, weight in (("acme", 3), ("beta", 4), ("", 6)):
                        self.assertIn(carried[house], (paid * weight // 13, -(-paid * weight // 13)))

    def test_many_rows(self):
        chooser = random.Random(69)
        covers = some_covers(chooser, 3)
        rows = some_rows(chooser, 300, range(2000))
        told = all_told(filled(Book(covers), rows, [2000]))
        self.assertEqual(told, reckoned_told(Reckoned(covers, rows)))

    def test_great_numbers(self):
        most = 10**12 - 1
        book = Book([cover("low", [Own("loss", 2)], houses=[("acme", 1), ("self", 1)])])
        rows = [loss(most, number, 1) for number in range(3)] + [(9, 2, "storm", most), (8, 2, "storm", 5)]
        ledger = filled(book, rows, [2])
        self.assertEqual(ledger.bears(0),
            [("", "low", 0, 2), ("", "low", 1, (most - 3) // 2), ("acme", "low", -1, (most - 1) // 2)])
        self.assertEqual(ledger.bears(1, 2, 3), [("", "low", 1, 1)])
        self.assertEqual([ledger.gave(8), ledger.gave(9)], [[(2, most - 5, most)], [(2, 0, most - 5), (1, most - 5, most)]])


class TestNotTold(Case):
    def test_what_waits_takings_back_and_other_numbers(self):
        ledger = filled(small_book(), [loss(9, 1, 1), (2, 1, "storm", 3), loss(9, 3, 5), (4, 5, "storm", 3)], [1])
        for asked in (ledger.strips, ledger.stands, ledger.bears):
            for number in (2, 3, 4, 5, 0, 10**9, -1):
                self.refused(NotTold, asked, number)
        for asked in (ledger.gave, ledger.over):
            for number in (1, 3, 4, 5, 0, 10**9, -1):
                self.refused(NotTold, asked, number)
        self.refused(NotTold, ledger.bears, 3, 0, 1)
        ledger.close(5)
        self.assertEqual(ledger.strips(3), [(0, 9, "low", -1)])
        self.assertEqual(ledger.gave(4), [(3, 6, 9)])
        for asked in (ledger.strips, ledger.stands, ledger.bears):
            self.refused(NotTold, asked, 4)
        for asked in (ledger.gave, ledger.over):
            self.refused(NotTold, asked, 3)

    def test_asking_changes_nothing(self):
        ledger = filled(small_book(), TestClose.ROWS, [4])
        ahead = all_told(ledger)
        for number in (30, 99):
            for asked in (ledger.strips, ledger.stands, ledger.bears, ledger.gave, ledger.over):
                self.refused(NotTold, asked, number)
        self.assertEqual(all_told(ledger), ahead)
        ledger.close(LAST)
        self.assertEqual(all_told(ledger), all_told(filled(small_book(), TestClose.ROWS, [LAST])))


class TestForetell(Case):
    def test_as_a_rolls_behind_takings_back_too(self):
        for chooser, covers, rows in some_ledgers(70, 60, days=range(100)):
            closed = chooser.choice((20, 60, 99))
            ledger, roll = filled(Book(covers), rows, [closed]), Roll(Book(covers))
            for row in rows:
                if len(row) == 6:
                    roll.enter(*row)
            roll.close(closed)
            foretold = sorted(some_loss(chooser, 0, range(closed + 1, 500))[1:] for k in range(4))
            copy, ahead = list(foretold), all_told(ledger)
            told = ledger.foretell(foretold)
            self.assertEqual(told, roll.foretell(foretold))
            self.assertEqual(ledger.foretell(foretold), told)
            self.assertEqual((foretold, all_told(ledger)), (copy, ahead))
            ledger.close(500)
            self.assertEqual(all_told(ledger), reckoned_told(Reckoned(covers, rows)))

    def test_refusals(self):
        ledger = filled(small_book(), TestClose.ROWS, [4])
        good = (5, "storm", "roof", "hail", 9)
        self.assertEqual(len(ledger.foretell([good, good])), 2)
        self.refused(Late, ledger.foretell, [(4,) + good[1:]], value=4)
        for one in spoilt_losses((9,) + good):
            if one[0] == 9:
                self.refused(NoEntry, ledger.foretell, [good, one[1:]])
                self.refused(NoEntry, ledger.foretell, [(4,) + good[1:], one[1:]])
        self.refused(NoEntry, ledger.foretell, [(6,) + good[1:], good])
        self.refused(NoEntry, ledger.foretell, [(4,) + good[1:], (3,) + good[1:]])
        self.assertEqual(ledger.foretell([]), [])


class TestAnyOrder(unittest.TestCase):
    def test_other_orders_and_closes(self):
        for chooser, covers, rows in some_ledgers(71, 60, days=range(0, 40, 4)):
            wanted = all_told(filled(Book(covers), rows, [40]))
            self.assertEqual(all_told(filled(Book(covers), chooser.sample(rows, len(rows)), range(41))), wanted)
            self.assertEqual(all_told(filled(Book(covers), rows[::-1], [17, 3, 23, 23, 40])), wanted)
            late = Ledger(Book(covers))
            for day in range(41):
                enter_rows(late, [row for row in chooser.sample(rows, len(rows)) if row[1] == day])
                late.close(day)
            self.assertEqual(all_told(late), wanted)

    def test_told_lists_are_the_askers_own(self):
        ledger = filled(small_book(), TestClose.ROWS)
        numbers = ledger.close(4)
        wanted = all_told(ledger)
        lists = [numbers, ledger.handled(), ledger.settled(), ledger.backs(), ledger.strips(8), ledger.bears(8), ledger.gave(1),
                 ledger.foretell([(5, "storm", "roof", "hail", 9)]), ledger.foretell([(5, "storm", "roof", "hail", 9)])[0]]
        for told in lists:
            told[0] = (9, 9, "other", 9)
            told.append((0, 1, "other", 5))
            self.assertEqual(all_told(ledger), wanted)
            told.clear()
            self.assertEqual(all_told(ledger), wanted)
        self.assertEqual(ledger.close(LAST), [30])
        self.assertEqual(all_told(ledger), reckoned_told(Reckoned(small_book().covers, TestClose.ROWS)))


if __name__ == "__main__":
    unittest.main()
