"""[80]: marks of a book. [81]: cells and stretches. [82]: the loss in a cell."""

import itertools
import random
import unittest

from coverroll.books import Book
from coverroll.cells import another, cells_of, loss_in, marks_of, stretches_of
from coverroll.clauses import Own
from coverroll.conditions import All, CauseIs, Condition, DaysIn, Not, Over, Some, ThingIs
from coverroll.covers import Cover
from coverroll.errors import TooWide
from tests.making import Case

LAST = 10**6
MOST = 10**12 - 1
LETTERS = "abcdefghijklmnopqrstuvwxyz"


def book_of(*conditions):
    return Book([Cover(LETTERS[k], condition, [Own("loss", 5)], None, k % 2 == 1) for k, condition in enumerate(conditions)])


def marked(causes=(), things=(), days=(), amounts=()):
    """A book with these marks, and no others. (Days come by the second day of a pair, whose first one is 0.)"""
    several = [CauseIs(name) for name in causes] + [ThingIs(name) for name in things]
    several += [DaysIn(0, day - 1) for day in days] + [Over(cents) for cents in amounts]
    covers = [several[k::8] for k in range(8)]
    return book_of(*[(Some(part) if len(part) > 1 else part[0]) for part in covers if part])


def names(many):
    every = ["".join(signs) for size in (1, 2, 3) for signs in itertools.product(LETTERS, repeat=size)]
    return every[:many]


class TestMarks(unittest.TestCase):
    def test_of_books_without_any(self):
        for book in (Book([]), book_of(Condition()), book_of(Condition(), Not(Condition()))):
            self.assertEqual(marks_of(book), ([], [], [], []))
            self.assertIsInstance(marks_of(book), tuple)

    def test_of_all_classes(self):
        one = Some([All([CauseIs("hail"), Not(ThingIs("roof"))]), DaysIn(365, 729), Not(Over(500)), Condition()])
        self.assertEqual(marks_of(book_of(one)), (["hail"], ["roof"], [365, 730], [500]))

    def test_sorted_and_none_twice(self):
        book = book_of(
            Some([CauseIs("b"), CauseIs("a"), CauseIs("b")]), CauseIs("ab"),
            All([ThingIs("z"), ThingIs("y"), CauseIs("a")]), ThingIs("z"),
            DaysIn(30, 39), DaysIn(40, 49), DaysIn(9, 29), Some([Over(10**11), Over(9), Over(0), Over(9), Over(MOST)]),
        )
        self.assertEqual(marks_of(book), (["a", "ab", "b"], ["y", "z"], [9, 30, 40, 50], [0, 9, 10**11, MOST]))

    def test_one_name_as_a_cause_and_as_a_thing(self):
        self.assertEqual(marks_of(book_of(CauseIs("roof"), ThingIs("roof"))), (["roof"], ["roof"], [], []))
        self.assertEqual(marks_of(book_of(ThingIs("roof"))), ([], ["roof"], [], []))

    def test_day_0_and_days_behind_the_last_one_are_left_out(self):
        self.assertEqual(marks_of(book_of(DaysIn(0, LAST)))[2], [])
        self.assertEqual(marks_of(book_of(DaysIn(0, 0)))[2], [1])
        self.assertEqual(marks_of(book_of(DaysIn(1, LAST - 1)))[2], [1, LAST])
        self.assertEqual(marks_of(book_of(DaysIn(LAST, LAST)))[2], [LAST])

    def test_waiting_covers_too(self):
        book = Book([Cover("low", CauseIs("hail"), None, None, True)])
        self.assertEqual(marks_of(book)[0], ["hail"])

    def test_told_lists_are_the_askers_own(self):
        book = book_of(All([CauseIs("hail"), ThingIs("roof"), DaysIn(3, 5), Over(7)]))
        wanted = (["hail"], ["roof"], [3, 6], [7])
        for part in marks_of(book):
            part.clear()
        self.assertEqual(marks_of(book), wanted)
        self.assertEqual(len(book.covers[0].condition.marks()), 5)


class TestAnother(unittest.TestCase):
    def test_all_named_up_to_some_place(self):
        every = names(26 + 26 * 26 + 40)
        for many in (0, 1, 2, 25, 26, 27, 51, 52, 53, 100, 26 * 26, 26 + 26 * 26 - 1, 26 + 26 * 26, 26 + 26 * 26 + 30):
            self.assertEqual(another(every[:many]), every[many])
            self.assertEqual(another(every[:many][::-1]), every[many])

    def test_the_first_hole(self):
        every = names(60)
        for place in (0, 1, 24, 25, 26, 27, 58):
            self.assertEqual(another(every[:place] + every[place + 1:]), every[place])

    def test_other_names_and_names_told_twice(self):
        self.assertEqual(another(["hail", "roof", "aa"]), "a")
        self.assertEqual(another(["b", "a", "a", "b", "d"]), "c")
        self.assertEqual(another([]), "a")

    def test_the_names_stay(self):
        several = ["b", "a", "d"]
        another(several)
        self.assertEqual(several, ["b", "a", "d"])


class TestCells(Case):
    def test_without_marks(self):
        self.assertEqual(cells_of(Book([])), [("", "", 0, LAST)])
        self.assertEqual(cells_of(book_of(Over(50))), [("", "", 0, LAST)])

    def test_in_their_order(self):
        book = book_of(All([CauseIs("hail"), ThingIs("roof")]), All([CauseIs("fire"), DaysIn(365, 729)]))
        stretches = [(0, 364), (365, 729), (730, LAST)]
        wanted = [(cause, thing, first, last) for cause in ("fire", "hail", "") for thing in ("roof", "") for first,
            last in stretches]
        self.assertEqual(cells_of(book), wanted)
        self.assertTrue(all(isinstance(cell, tuple) for cell in cells_of(book)))

    def test_days_at_the_ends(self):
        self.assertEqual(cells_of(book_of(DaysIn(0, 0))), [("", "", 0, 0), ("", "", 1, LAST)])
        self.assertEqual(cells_of(book_of(DaysIn(LAST, LAST))), [("", "", 0, LAST - 1), ("", "", LAST, LAST)])
        self.assertEqual(cells_of(book_of(DaysIn(0, LAST))), [("", "", 0, LAST)])
        self.assertEqual(cells_of(book_of(DaysIn(4, 4), DaysIn(5, 5))),
            [("", "", 0, 3), ("", "", 4, 4), ("", "", 5, 5), ("", "", 6, LAST)])

    def test_just_120_and_121(self):
        for causes, things, days in ((0, 0, 119), (119, 0, 0), (0, 119, 0), (3, 4, 5), (1, 1, 29), (9, 11, 0),
            (0, 9, 11), (5, 4, 3)):
            book = marked(names(causes), names(things), range(3, 3 + days))
            self.assertEqual([len(part) for part in marks_of(book)], [causes, things, days, 0])
            self.assertEqual(len(cells_of(book)), 120)
        for causes, things, days in ((0, 0, 120), (120, 0, 0), (0, 120, 0), (10, 10, 0), (0, 10, 10), (10, 0, 10),
            (4, 4, 4), (30, 30, 30)):
            self.refused(TooWide, cells_of, marked(names(causes), names(things), range(3, 3 + days)))

    def test_amounts_make_no_cells(self):
        self.assertEqual(len(cells_of(marked(amounts=range(200)))), 1)

    def test_each_loss_belongs_to_just_one(self):
        chooser = random.Random(81)
        for turn in range(60):
            book = marked(names(turn % 4), names(turn % 3), chooser.sample(range(1, 30), turn % 5))
            cells = cells_of(book)
            causes, things = marks_of(book)[:2]
            for times in range(20):
                cause, thing, day = chooser.choice(names(6)), chooser.choice(names(6)), chooser.choice((0, LAST,
                    chooser.randint(0, 31)))
                place = (cause if cause in causes else "", thing if thing in things else "")
                self.assertEqual(len([cell for cell in cells if cell[:2] == place and cell[2] <= day <= cell[3]]), 1)


class TestStretches(unittest.TestCase):
    def test_bounds_at_below_and_above_the_amounts(self):
        book = book_of(Over(50), Over(9), Over(50), Over(0))
        for bound, wanted in (
            (1, [(1, 1)]), (8, [(1, 8)]), (9, [(1, 9)]), (10, [(1, 9), (10, 10)]), (49, [(1, 9), (10, 49)]),
            (50, [(1, 9), (10, 50)]),
            (51, [(1, 9), (10, 50), (51, 51)]), (52, [(1, 9), (10, 50), (51, 52)]), (MOST, [(1, 9), (10, 50), (51, MOST)]),
        ):
            self.assertEqual(stretches_of(book, bound), wanted)

    def test_an_amount_of_1_and_of_0(self):
        self.assertEqual(stretches_of(book_of(Over(0)), 5), [(1, 5)])
        self.assertEqual(stretches_of(book_of(Over(1)), 5), [(1, 1), (2, 5)])
        self.assertEqual(stretches_of(book_of(Over(1)), 1), [(1, 1)])
        self.assertEqual(stretches_of(book_of(Over(MOST), Over(MOST - 1)), MOST), [(1, MOST - 1), (MOST, MOST)])

    def test_without_amounts(self):
        for bound in (1, 2, MOST):
            self.assertEqual(stretches_of(Book([]), bound), [(1, bound)])
            self.assertEqual(stretches_of(book_of(CauseIs("hail")), bound), [(1, bound)])

    def test_more_than_120(self):
        told = stretches_of(marked(amounts=range(1, 200)), 150)
        self.assertEqual(told, [(cents, cents) for cents in range(1, 151)])


class TestLossIn(unittest.TestCase):
    def test_with_marked_names_and_without(self):
        book = book_of(All([CauseIs("hail"), ThingIs("roof"), CauseIs("a"), DaysIn(3, 5)]), ThingIs("b"))
        self.assertEqual(loss_in(book, ("hail", "roof", 3, 5), 70), (0, 3, "e", "roof", "hail", 70))
        self.assertEqual(loss_in(book, ("", "roof", 0, 2), 1), (0, 0, "e", "roof", "b", 1))
        self.assertEqual(loss_in(book, ("a", "", 6, LAST), MOST), (0, 6, "e", "a", "a", MOST))
        self.assertEqual(loss_in(book, ("", "", 6, LAST), 5), (0, 6, "e", "a", "b", 5))

    def test_names_of_causes_and_things_apart(self):
        book = marked(causes=names(26), things=names(3))
        self.assertEqual(loss_in(book, ("", "", 0, LAST), 5), (0, 0, "e", "d", "aa", 5))

    def test_conditions_hold_alike_of_all_losses_of_a_cell(self):
        chooser = random.Random(82)
        for turn in range(100):
            parts = [CauseIs(chooser.choice("abc")), ThingIs(chooser.choice("abc")), DaysIn(*sorted(chooser.sample(range(9), 2)))]
            condition = chooser.choice([All, Some])([Not(parts[0]), chooser.choice(parts), parts[2]])
            book = book_of(condition, parts[1])
            for cell in cells_of(book):
                made = loss_in(book, cell, 5)
                causes, things = marks_of(book)[:2]
                for cause, thing in itertools.product("abcdef", repeat=2):
                    for day in (cell[2], cell[3], chooser.randint(cell[2], cell[3])):
                        if (cause if cause in causes else "", thing if thing in things else "") == cell[:2]:
                            for one in book.covers:
                                self.assertEqual(one.asks((7, day, "storm", thing, cause, 5)), one.asks(made))


if __name__ == "__main__":
    unittest.main()
