"""[51]: entering. [52]: closing. [53]: any order. [54]: foretelling. [6], [7] over many days. [3]."""

import itertools
import random
import unittest

from coverroll.books import Book
from coverroll.clauses import Layer, Limit, Own
from coverroll.conditions import CauseIs, DaysIn
from coverroll.errors import Late, NoEntry, NotTold, Twice
from coverroll.rolls import Roll
from tests.making import (
    Case, Reckoned, cover, lefts_of, loss, some_cover, some_covers, some_loss, spoilt_losses,
)

LAST = 10**6
FORETOLD_SPOILT = [one[1:] for one in spoilt_losses(loss(5, 9, 50)) if one[0] == 9]


def low_and_high():
    return Book([cover("low", [Own("event", 100), Limit("year", 500)]), cover("high", [Layer("event", 300, 900)])])


def filled(book, losses, closes=()):
    roll = Roll(book)
    for one in losses:
        roll.enter(*one)
    for day in closes:
        roll.close(day)
    return roll


def all_told(roll):
    return roll.closed, roll.settled(), [roll.told(one[0]) for one in roll.settled()]


class TestEnter(Case):
    def test_tells_none(self):
        roll = Roll(low_and_high())
        self.assertIsNone(roll.enter(1, 40, "storm", "roof", "hail", 1250))
        self.assertIsNone(roll.enter(0, 0, "a.b.c.d", "a", "z", 10**12 - 1))
        self.assertIsNone(roll.enter(10**9, LAST, "stormsto", "roofroof", "hailhail", 1))
        self.assertEqual(roll.close(LAST), [0, 1, 10**9])

    def test_each_of_the_six_spoilt(self):
        roll = Roll(low_and_high())
        for one in spoilt_losses(loss(5, 7, 3)):
            self.refused(NoEntry, roll.enter, *one)
        self.assertEqual(roll.close(2), [])
        for one in spoilt_losses(loss(5, 7, 3)):
            self.refused(NoEntry, roll.enter, *one)
        roll.enter(*loss(5, 7, 3))
        self.assertEqual(roll.close(LAST), [7])

    def test_twice_for_one_that_waits_and_for_a_settled_one(self):
        roll = filled(low_and_high(), [loss(5, 7, 3), loss(6, 0, 9)])
        for closes in range(3):
            self.refused(Twice, roll.enter, *loss(5, 7, 300), value=7)
            self.refused(Twice, roll.enter, *loss(9, 0, 400, "flood", "wall", "fire"), value=0)
            roll.close((3, 20, 30)[closes])
        roll.enter(*loss(5, 1, 31))
        self.assertEqual(roll.close(LAST), [1])
        self.assertEqual([one[0] for one in roll.settled()], [7, 0, 1])

    def test_late_at_the_closed_day_and_below_it_but_not_above(self):
        for closed in (0, 1, 7, 364, LAST - 1):
            roll = Roll(low_and_high())
            roll.close(closed)
            for day in {0, closed // 2, max(closed - 1, 0), closed}:
                self.refused(Late, roll.enter, *loss(5, 7, day), value=closed)
            roll.enter(*loss(5, 7, closed + 1))
            self.assertEqual(roll.close(closed + 1), [7])
            self.assertEqual(roll.closed, closed + 1)
        self.refused(Late, filled(low_and_high(), [], [LAST]).enter, *loss(5, 7, LAST), value=LAST)

    def test_late_tells_the_last_closed_day_and_not_that_of_the_last_close(self):
        roll = filled(low_and_high(), [], [5, 9, 2])
        self.refused(Late, roll.enter, *loss(5, 7, 1), value=9)
        self.refused(Late, roll.enter, *loss(5, 7, 9), value=9)

    def test_no_entry_ahead_of_twice_and_twice_ahead_of_late(self):
        roll = filled(low_and_high(), [loss(5, 7, 3), loss(5, 8, 30)], [10])
        for number in (7, 8):
            for one in spoilt_losses(loss(5, number, 3)):
                self.refused(NoEntry, roll.enter, *one)
            self.refused(Twice, roll.enter, *loss(5, number, 3), value=number)
        self.refused(Late, roll.enter, *loss(5, 9, 3), value=10)
        self.refused(NoEntry, roll.enter, *loss(0, 9, 3))

    def test_what_was_refused_is_not_there_and_its_number_is_free(self):
        book = low_and_high()
        roll = filled(book, [loss(300, 1, 3)], [3])
        fresh = filled(book, [loss(300, 1, 3)], [3])
        for number, bad in enumerate((loss(0, 0, 9), loss(9, 0, 3), loss(9, 0, -1), loss(9, 0, 9, "Storm")), start=2):
            with self.assertRaises((NoEntry, Late)):
                roll.enter(number, *bad[1:])
            self.assertEqual(roll.close(roll.closed), [])
            roll.enter(*loss(400 + number, number, 10 + number))
            fresh.enter(*loss(400 + number, number, 10 + number))
            with self.assertRaises(Twice):
                roll.enter(*loss(999, number, 10))
        self.assertEqual(roll.close(LAST), [2, 3, 4, 5])
        fresh.close(LAST)
        self.assertEqual(all_told(roll), all_told(fresh))


class TestClose(Case):
    LOSSES = [loss(900, 9, 3), loss(800, 10, 3), loss(700, 2, 4), loss(600, 0, 10), loss(500, 30, 10)]

    def test_the_order_of_days_then_of_numbers(self):
        book = low_and_high()
        wanted = None
        for several in itertools.permutations(self.LOSSES):
            roll = filled(book, several)
            self.assertEqual(roll.close(10), [9, 10, 2, 0, 30])
            self.assertEqual(roll.settled(), self.LOSSES)
            wanted = wanted or all_told(roll)
            self.assertEqual(all_told(roll), wanted)
        reckoned = Reckoned(book.covers, self.LOSSES)
        self.assertEqual(wanted, (10, self.LOSSES, [reckoned.strips[one[0]] for one in self.LOSSES]))

    def test_days_one_by_one_and_what_waits(self):
        roll = filled(low_and_high(), self.LOSSES[::-1])
        told = [roll.close(day) for day in range(12)]
        self.assertEqual(told, [[], [], [], [9, 10], [2], [], [], [], [], [], [0, 30], []])
        self.assertEqual(roll.closed, 11)

    def test_a_day_closed_twice_and_one_below(self):
        roll = filled(low_and_high(), self.LOSSES)
        self.assertEqual(roll.close(4), [9, 10, 2])
        for day in (4, 3, 0, 4):
            self.assertEqual(roll.close(day), [])
            self.assertEqual(roll.closed, 4)
        roll.enter(*loss(5, 77, 5))
        self.assertEqual(roll.close(9), [77])
        self.assertEqual(roll.close(LAST), [0, 30])

    def test_closed_moves_without_losses(self):
        roll = Roll(low_and_high())
        self.assertIsNone(roll.closed)
        for day in (0, 1, 365, LAST):
            self.assertEqual(roll.close(day), [])
            self.assertEqual(roll.closed, day)

    def test_ahead_of_the_first_close_nothing_is_late(self):
        roll = filled(low_and_high(), [loss(5, 1, LAST), loss(5, 2, 0), loss(5, 3, 1), loss(5, 4, 0)])
        self.assertIsNone(roll.closed)
        self.assertEqual(roll.foretell([(0, "storm", "roof", "hail", 5)]), [[(0, 5, "low", 0)]])
        self.assertEqual(roll.close(0), [2, 4])

    def test_what_is_no_day(self):
        roll = filled(low_and_high(), self.LOSSES)
        for times in range(2):
            ahead = all_told(roll)
            for thing in (-1, LAST + 1, True, False, None, "3", 3.0, [3]):
                self.refused(NoEntry, roll.close, thing)
                self.assertEqual(all_told(roll), ahead)
            roll.close(3)
        self.assertEqual(roll.close(LAST), [2, 0, 30])

    def test_one_book_in_two_rolls(self):
        book = low_and_high()
        one = filled(book, self.LOSSES, [LAST])
        other = Roll(book)
        self.assertIsNone(other.closed)
        self.assertEqual(other.settled(), [])
        other.enter(*self.LOSSES[0])
        other.close(5)
        self.assertEqual(other.told(9), one.told(9))
        self.refused(NotTold, other.told, 10)
        self.assertEqual(other.foretell([self.LOSSES[3][1:]]), filled(book, [self.LOSSES[0]], [5]).foretell([self.LOSSES[3][1:]]))
        self.assertEqual(all_told(one), all_told(filled(low_and_high(), self.LOSSES, [LAST])))

    def test_not_told(self):
        roll = filled(low_and_high(), self.LOSSES, [3])
        for number in (2, 0, 30, 5, 10**9, -1):
            self.refused(NotTold, roll.told, number)
        self.assertEqual(roll.told(9)[0], (0, 100, "low", 0))
        roll.close(LAST)
        for number in (1, 31, 10**9 + 1, False):
            self.refused(NotTold, roll.told, number)

    def test_the_example_over_days(self):
        losses = [loss(1000, 3, 5), loss(200, 1, 6), loss(400, 2, 6, "flood"), loss(150, 0, 365)]
        roll = filled(low_and_high(), losses)
        self.assertEqual(roll.close(364), [3, 1, 2])
        self.assertEqual(roll.told(3), [(0, 100, "low", 0), (100, 600, "low", -1), (600, 900, "high", -1), (900, 1000, "low", 1)])
        self.assertEqual(roll.told(1), [(0, 200, "low", 1)])
        self.assertEqual(roll.told(2), [(0, 100, "low", 0), (100, 300, "low", 1), (300, 400, "high", -1)])
        roll.close(365)
        self.assertEqual(roll.told(0), [(0, 150, "low", -1)])


class TestByTheRule(unittest.TestCase):
    def test_losses_of_many_days(self):
        chooser = random.Random(51)
        for turn in range(150):
            covers = [some_cover(chooser, name) for name in ("dd", "b", "cc", "a")[:turn % 5]]
            days = chooser.sample(range(1100), 6)
            losses = [some_loss(chooser, number, days) for number in chooser.sample(range(60), 14)]
            roll = filled(Book(covers), losses, sorted(chooser.sample(days, 2)) + [1100])
            reckoned = Reckoned(covers, losses)
            self.assertEqual(roll.settled(), reckoned.losses())
            for one in losses:
                self.assertEqual(roll.told(one[0]), reckoned.strips[one[0]])
                for c in covers:
                    self.assertTrue(all(left >= 0 for left, k in lefts_of(c, reckoned.kept, one)))


class TestAnyOrder(Case):
    def test_other_orders_and_closes(self):
        chooser = random.Random(53)
        for turn in range(60):
            covers = some_covers(chooser, 1 + turn % 4)
            losses = [some_loss(chooser, number, range(0, 40, 4)) for number in chooser.sample(range(50), 12)]
            wanted = all_told(filled(Book(covers), losses, [40]))
            self.assertEqual(all_told(filled(Book(covers), chooser.sample(losses, 12), range(41))), wanted)
            self.assertEqual(all_told(filled(Book(covers), sorted(losses), [17, 3, 23, 23, 40])), wanted)
            late = Roll(Book(covers))
            for day in range(41):
                for one in chooser.sample(losses, 12):
                    if one[1] == day:
                        late.enter(*one)
                late.close(day)
            self.assertEqual(all_told(late), wanted)
            row = losses[0][2:]
            self.assertEqual(late.foretell([(41,) + row]), filled(Book(covers), losses, [40]).foretell([(41,) + row]))

    def test_what_was_told_stays(self):
        roll = filled(low_and_high(), [loss(700, number, number) for number in range(12)])
        told = {}
        for day in range(12):
            roll.close(day)
            told[day] = roll.told(day)
            for number in range(day + 1):
                self.assertEqual(roll.told(number), told[number])
            with self.assertRaises(Late):
                roll.enter(*loss(5, 99, day))
        self.assertEqual([one[0] for one in roll.settled()], list(range(12)))

    def test_told_lists_are_the_askers_own(self):
        roll = filled(low_and_high(), [loss(700, number, number) for number in range(4)])
        numbers = roll.close(2)
        wanted = all_told(filled(low_and_high(), [loss(700, number, number) for number in range(4)], [2]))
        row = (5, "storm", "roof", "hail", 700)
        ahead = roll.foretell([row, row])
        for told in (numbers, roll.told(0), roll.told(1), roll.settled(), roll.foretell([row]), roll.foretell([row])[0]):
            told.append((0, 1, "other", 5))
            told[0] = (9, 9, "more", -1)
            self.assertEqual(all_told(roll), wanted)
            told.clear()
            self.assertEqual(all_told(roll), wanted)
            self.assertEqual(roll.foretell([row, row]), ahead)
        self.assertEqual(roll.close(3), [3])


class TestForetell(Case):
    def test_as_a_roll_with_just_these_losses_behind_all_that_is_settled(self):
        chooser = random.Random(54)
        for turn in range(120):
            covers = [some_cover(chooser, name) for name in ("dd", "b", "cc", "a")[:1 + turn % 4]]
            losses = [some_loss(chooser, number, range(400)) for number in chooser.sample(range(50), 8)]
            closed = chooser.choice((0, 100, 250, 399))
            rows = sorted(some_loss(chooser, 0, range(closed + 1, 800))[1:] for k in range(turn % 5))
            roll = filled(Book(covers), losses, [closed])
            settled = roll.settled()
            told = roll.foretell(rows)
            self.assertEqual(roll.foretell(rows), told)
            alone = filled(Book(covers), settled, [closed])
            for k, row in enumerate(rows):
                alone.enter(1000 + k, *row)
            alone.close(LAST)
            self.assertEqual(told, [alone.told(1000 + k) for k in range(len(rows))])
            self.assertEqual(all_told(roll), all_told(filled(Book(covers), losses, [closed])))
            roll.close(900)
            self.assertEqual(all_told(roll), all_told(filled(Book(covers), losses, [900])))

    def test_losses_that_wait_are_left_out(self):
        book = Book([cover("low", [Limit("year", 10)])])
        roll = filled(book, [loss(8, 1, 3), loss(8, 2, 4)])
        row = (5, "storm", "roof", "hail", 9)
        self.assertEqual(roll.foretell([row]), [[(0, 9, "low", -1)]])
        roll.close(3)
        self.assertEqual(roll.foretell([row]), [[(0, 2, "low", -1), (2, 9, "low", 0)]])
        roll.close(4)
        self.assertEqual(roll.foretell([row]), [[(0, 9, "low", 0)]])

    def test_each_is_a_loss_by_itself(self):
        book = Book([cover("low", [Own("loss", 3), Limit("loss", 4)]), cover("high", [Layer("loss", 0, 2)])])
        row = (5, "storm", "roof", "hail", 9)
        wanted = [(0, 2, "high", -1), (2, 3, "low", 0), (3, 7, "low", -1), (7, 9, "low", 1)]
        for losses in ([], [loss(50, number, 1) for number in range(6)], [loss(50, 10**9, 1), loss(50, 10**9 - 1, 2)]):
            roll = filled(book, losses, [2])
            self.assertEqual(roll.foretell([row] * 5), [wanted] * 5)

    def test_one_behind_another(self):
        book = Book([cover("low", [Own("event", 5), Limit("thing", 9)])])
        rows = [(5, "storm", "roof", "hail", 8), (5, "storm", "roof", "hail", 8), (9, "flood", "wall", "fire", 6)]
        told = Roll(book).foretell(rows)
        self.assertEqual(told, [
            [(0, 5, "low", 0), (5, 8, "low", -1)], [(0, 6, "low", -1), (6, 8, "low", 1)], [(0, 5, "low", 0), (5, 6, "low", -1)],
        ])

    def test_days_decide(self):
        book = Book([cover("low", [], DaysIn(7, 8)), cover("high", [Limit("year", 5)], CauseIs("fire"))])
        rows = [(day, "storm", "roof", "fire", 3) for day in (6, 7, 8, 9, 365)]
        self.assertEqual([strips[-1][2:] for strips in Roll(book).foretell(rows)], [
            ("high", -1), ("low", -1), ("low", -1), ("high", 0), ("high", -1),
        ])

    def test_a_bad_row_at_each_place(self):
        roll = filled(low_and_high(), [loss(5, 1, 3)], [10])
        good = (50, "storm", "roof", "hail", 5)
        self.assertGreater(len(FORETOLD_SPOILT), 40)
        for place in range(3):
            for bad in FORETOLD_SPOILT:
                rows = [good] * place + [bad] + [good] * (2 - place)
                self.refused(NoEntry, roll.foretell, rows)
        self.assertEqual(len(roll.foretell([good] * 3)), 3)

    def test_a_row_of_more_or_fewer_things(self):
        roll = Roll(low_and_high())
        good = (50, "storm", "roof", "hail", 5)
        for bad in (good[:4], good[1:], (9,) + good, good + (5,), (), None, 5):
            self.refused(NoEntry, roll.foretell, [good, bad])

    def test_a_falling_day_at_each_place(self):
        roll = filled(low_and_high(), [], [10])
        rows = [(day, "storm", "roof", "hail", 5) for day in (20, 20, 30, 30, 40)]
        self.assertEqual(len(roll.foretell(rows)), 5)
        for place in range(1, 5):
            bad = rows[:place] + [(rows[place - 1][0] - 1,) + rows[place][1:]] + rows[place + 1:]
            self.refused(NoEntry, roll.foretell, bad)

    def test_late_with_the_last_closed_day(self):
        roll = filled(low_and_high(), [], [10, 4])
        row = ("storm", "roof", "hail", 5)
        self.refused(Late, roll.foretell, [(10,) + row], value=10)
        self.refused(Late, roll.foretell, [(0,) + row, (11,) + row], value=10)
        self.refused(Late, roll.foretell, [(9,) + row, (10,) + row], value=10)
        self.assertEqual(len(roll.foretell([(11,) + row])), 1)

    def test_no_entry_ahead_of_late(self):
        roll = filled(low_and_high(), [], [60])
        late = (50, "storm", "roof", "hail", 5)
        self.refused(Late, roll.foretell, [late], value=60)
        for bad in FORETOLD_SPOILT:
            self.refused(NoEntry, roll.foretell, [late, bad])
            self.refused(NoEntry, roll.foretell, [bad, late])
        self.refused(NoEntry, roll.foretell, [late, (49,) + late[1:]])
        self.refused(NoEntry, roll.foretell, [late, (70,) + late[1:], (69,) + late[1:]])

    def test_no_rows(self):
        self.assertEqual(Roll(low_and_high()).foretell([]), [])
        self.assertEqual(filled(low_and_high(), [loss(5, 1)], [LAST]).foretell([]), [])

    def test_the_rows_stay_as_handed_in(self):
        rows = [(5, "storm", "roof", "hail", 700), (6, "storm", "roof", "hail", 700)]
        copy = list(rows)
        roll = Roll(low_and_high())
        roll.foretell(rows)
        self.assertEqual(rows, copy)
        rows.append((7, "storm", "roof", "hail", 0))
        self.refused(NoEntry, roll.foretell, rows)
        self.assertEqual(rows, copy + [(7, "storm", "roof", "hail", 0)])

    def test_a_refusal_changes_nothing(self):
        roll = filled(low_and_high(), [loss(700, 1, 3), loss(700, 2, 30)], [10])
        good = (50, "storm", "roof", "hail", 700)
        ahead = roll.foretell([good])
        for rows in ([good, (50, "storm", "roof", "hail", 0)], [good, (49,) + good[1:]], [(9,) + good[1:]]):
            with self.assertRaises((NoEntry, Late)):
                roll.foretell(rows)
            self.assertEqual(roll.foretell([good]), ahead)
        self.assertEqual(roll.close(LAST), [2])


if __name__ == "__main__":
    unittest.main()
