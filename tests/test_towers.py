"""[70]: towers and what they refuse. [71], [72]: closing, and what comes of it. [73]: asking."""

import random
import unittest
from collections import Counter

from coverroll.books import Book
from coverroll.clauses import Limit, Own
from coverroll.conditions import ThingIs
from coverroll.errors import Late, NoBook, NoEntry, NotTold, Twice
from coverroll.ledgers import Ledger
from coverroll.towers import Tower, by_house
from tests.making import (
    Case, ReckonedTower, cover, enter_rows, filled_tower, loss, some_loss, some_rows, some_towers, spoilt_backs, spoilt_losses,
)

LAST = 10**6
NO_ROWS = (-1, 4, 10**9, True, False, None, "0", 0.0, [0], (0,))


def ground_book():
    low = cover("low", [Own("event", 2), Limit("year", 200)], houses=[("beta", 2), ("acme", 2), ("self", 1)])
    return Book([low, cover("high", [Limit("loss", 9)], houses=[("acme", 1)])])


def upper_book():
    mild = cover("mild", [Own("loss", 1)], ThingIs("acme"), houses=[("zeta", 1), ("acme", 1)])
    return Book([mild, cover("rest", [Limit("event", 6)], houses=[("zeta", 1), ("self", 2)])])


def books_of(size):
    return [ground_book(), upper_book(), upper_book(), ground_book()][:size]


def row_told(tower, r):
    losses, backs = tower.losses(r), tower.backs(r)
    told = []
    for number, day, event, thing, cause, cents in losses:
        told.append((tower.strips(r, number), tower.stands(r, number), tower.bears(r, number), tower.bears(r, number, 0, cents)))
    origins = [tower.origin(r, row[0]) for row in losses + backs if r]
    return losses, backs, told, [(tower.gave(r, row[0]), tower.over(r, row[0])) for row in backs], origins


def all_told(tower):
    return [row_told(tower, r) for r in range(tower.size())]


def reckoned_told(reckoned):
    told = []
    for r, row in enumerate(reckoned.rows):
        losses, backs = row.losses(), row.backs()
        asked = [(row.strips[n], row.stands(n), row.bears(n), row.bears(n, 0, cents)) for n, d, e, t, c, cents in losses]
        gave = [(row.gave(one[0]), row.over[one[0]]) for one in backs]
        told.append((losses, backs, asked, gave, [reckoned.origins[r][one[0]] for one in losses + backs if r]))
    return told


def made_towers(seed, many, days=range(0, 400, 40), rows=9):
    chooser = random.Random(seed)
    for turn in range(many):
        yield chooser, some_towers(chooser, 1 + turn % 4), some_rows(chooser, rows, days, backs=0.35)


def tower_of(books, rows, closes):
    return filled_tower([Book(covers) for covers in books], rows, closes)


class TestMaking(Case):
    def test_one_to_four_books(self):
        for size in range(1, 5):
            self.assertEqual(Tower(books_of(size)).size(), size)

    def test_none_five_and_what_is_no_list(self):
        book = ground_book()
        for thing in ([], [book] * 5, [book] * 9, (book,), (book, book), None, book, 1, "b", {0: book}, True):
            self.refused(NoBook, Tower, thing)

    def test_one_book_in_several_rows_and_towers(self):
        book = ground_book()
        rows = [loss(30, 1, 1), (2, 2, "storm", 7), loss(9, 3, 3, "flood")]
        one, other = filled_tower([book] * 3, rows, [5]), filled_tower([ground_book(), ground_book(), ground_book()], rows, [5])
        self.assertEqual(all_told(one), all_told(other))
        fresh = Tower([book, book])
        self.assertEqual(all_told(fresh), [([], [], [], [], [])] * 2)
        enter_rows(fresh, rows)
        fresh.close(5)
        self.assertEqual(all_told(fresh)[0], all_told(other)[0])
        self.assertEqual(all_told(one), all_told(other))

    def test_the_list_changed_behind_the_making(self):
        books = books_of(2)
        tower = Tower(books)
        books.append(upper_book())
        books[0] = Book([])
        self.assertEqual(tower.size(), 2)
        rows = [loss(30, 1, 1)]
        enter_rows(tower, rows)
        tower.close(1)
        self.assertEqual(all_told(tower), all_told(filled_tower(books_of(2), rows, [1])))
        self.assertEqual(len(books), 3)


class TestEntering(Case):
    def test_tells_none(self):
        tower = Tower(books_of(2))
        self.assertIsNone(tower.loss(1, 3, "storm", "roof", "hail", 50))
        self.assertIsNone(tower.back(2, 3, "storm", 5))
        self.assertEqual(tower.close(3), [1, 2])

    def test_events_of_so_many_names(self):
        for size in range(1, 5):
            tower = Tower(books_of(size))
            names = 5 - size
            taken, refused = ".".join(["storm"] * names), ".".join(["storm"] * (names + 1))
            self.refused(NoEntry, tower.loss, *loss(40, 1, 3, refused))
            self.refused(NoEntry, tower.back, 2, 3, refused, 5)
            self.refused(NoEntry, tower.foretell, [(3, refused, "roof", "hail", 5)])
            self.refused(NoEntry, tower.foretell, [(3, "storm", "roof", "hail", 5), (3, refused, "roof", "hail", 5)])
            tower.loss(*loss(40, 1, 3, taken))
            tower.back(2, 3, taken, 5)
            self.assertEqual(len(tower.foretell([(3, taken, "roof", "hail", 5)])), 1)
            self.assertEqual(tower.close(3), [1, 2])
            self.assertEqual(tower.losses(size - 1)[0][2].count("."), 3)
            self.assertEqual(len(tower.losses(size - 1)[0][2].split(".")), 4)

    def test_such_an_event_goes_ahead_of_twice_and_of_late(self):
        for size in range(2, 5):
            tower = filled_tower(books_of(size), [loss(40, 1, 3), (2, 3, "storm", 5), loss(40, 3, 30)], [10])
            event = ".".join(["storm"] * (6 - size))
            for number in (1, 2, 3, 9):
                self.refused(NoEntry, tower.loss, *loss(40, number, 3, event))
                self.refused(NoEntry, tower.back, number, 3, event, 5)
            self.refused(NoEntry, tower.foretell, [(3, event, "roof", "hail", 5)])
            self.refused(NoEntry, tower.foretell, [(3, "storm", "roof", "hail", 5), (30, event, "roof", "hail", 5)])

    def test_refused_as_by_a_ledger(self):
        tower = filled_tower(books_of(3), [loss(40, 7, 3), (8, 30, "storm", 5)], [10])
        for number in (7, 8, 9):
            for one in spoilt_losses(loss(5, number, 3)):
                self.refused(NoEntry, tower.loss, *one)
            for one in spoilt_backs((number, 3, "storm", 5)):
                self.refused(NoEntry, tower.back, *one)
        for number in (7, 8):
            self.refused(Twice, tower.loss, *loss(5, number, 3), value=number)
            self.refused(Twice, tower.back, number, 30, "storm", 5, value=number)
        self.refused(Late, tower.loss, *loss(5, 9, 10), value=10)
        self.refused(Late, tower.back, 9, 10, "storm", 5, value=10)

    def test_refusals_change_nothing(self):
        rows = [loss(40, 7, 3), (8, 5, "storm", 5), loss(40, 1, 30)]
        tower, fresh = filled_tower(books_of(3), rows, [10]), filled_tower(books_of(3), rows, [10])
        for call in (lambda: tower.loss(9, 3, "storm", "roof", "hail", 5), lambda: tower.loss(9, 30, "a.b.c", "roof", "hail", 5),
                     lambda: tower.back(9, 30, "a.b.c", 5), lambda: tower.back(9, 30, "storm", 0),
                     lambda: tower.back(1, 30, "a", 5),
                     lambda: tower.loss(8, 30, "a", "b", "c", 5), lambda: tower.close(-1), lambda: tower.close(True),
                     lambda: tower.foretell([(30, "a.b.c", "roof", "hail", 5)]), lambda: tower.close(LAST + 1)):
            with self.assertRaises((NoEntry, Late, Twice)):
                call()
            self.assertEqual(all_told(tower), all_told(fresh))
        for one in (tower, fresh):
            one.back(9, 40, "storm", 5)
            self.assertEqual(one.close(LAST), [1, 9])
        self.assertEqual(all_told(tower), all_told(fresh))

    def test_foretelling_as_the_first_rows_ledger(self):
        for chooser, books, rows in made_towers(70, 40):
            tower, ledger = tower_of(books, rows, [200]), Ledger(Book(books[0]))
            enter_rows(ledger, rows)
            ledger.close(200)
            foretold = sorted(some_loss(chooser, 0, range(201, 500))[1:] for k in range(3))
            copy, ahead = list(foretold), all_told(tower)
            told = tower.foretell(foretold)
            self.assertEqual(told, ledger.foretell(foretold))
            self.assertEqual(tower.foretell(foretold), told)
            self.assertEqual((foretold, all_told(tower)), (copy, ahead))
            self.assertEqual(tower.foretell([]), [])
            self.refused(Late, tower.foretell, [(200, "storm", "roof", "hail", 5)], value=200)
            self.refused(NoEntry, tower.foretell, [(300, "storm", "roof", "hail", 5), (299, "storm", "roof", "hail", 5)])
            for one in spoilt_losses(loss(5, 9, 300)):
                if one[0] == 9:
                    self.refused(NoEntry, tower.foretell, [(200, "storm", "roof", "hail", 5), one[1:]])


class TestClosing(Case):
    def test_by_hand(self):
        tower = filled_tower([ground_book(), upper_book()], [loss(12, 7, 3, cause="fire"), (5, 3, "storm", 3)])
        self.assertEqual(tower.close(3), [7, 5])
        self.assertEqual(tower.strips(0, 7), [(0, 2, "high", -1), (2, 12, "low", -1)])
        self.assertEqual(tower.bears(0, 7, 0, 12),
            [("", "low", 2, 2), ("acme", "high", -1, 2), ("acme", "low", -1, 4), ("beta", "low", -1, 4)])
        self.assertEqual(tower.losses(1), [(0, 3, "storm.acme", "acme", "fire", 6), (1, 3, "storm.beta", "beta", "fire", 4)])
        self.assertEqual(tower.bears(0, 7, 9, 12), [("", "low", 2, 1), ("acme", "low", -1, 1), ("beta", "low", -1, 1)])
        self.assertEqual(tower.backs(1), [(2, 3, "storm.acme", 1), (3, 3, "storm.beta", 1)])
        self.assertEqual([tower.origin(1, number) for number in range(4)], [(7, "acme"), (7, "beta"), (5, "acme"), (5, "beta")])
        self.assertEqual([tower.made_of(0, 7, house) for house in ("acme", "beta")], [0, 1])
        self.assertEqual([tower.stands(1, number) for number in (0, 1)], [5, 3])

    def test_numbers_go_on_over_closes(self):
        rows = [loss(12, 7, 3), loss(12, 2, 3, "flood"), (5, 4, "storm", 3), loss(9, 0, 5)]
        tower = filled_tower(books_of(2), rows)
        self.assertEqual([tower.close(day) for day in (3, 4, 5)], [[7, 2][::-1], [5], [0]])
        numbers = [row[0] for row in tower.losses(1) + tower.backs(1)]
        self.assertEqual(sorted(numbers), list(range(len(numbers))))
        self.assertEqual([row[0] for row in tower.losses(1)], [0, 1, 2, 3, 6, 7])
        self.assertEqual([row[0] for row in tower.backs(1)], [4, 5])
        self.assertEqual([row[1:3] for row in tower.losses(1)], [
            (3, "flood.acme"), (3, "flood.beta"), (3, "storm.acme"), (3, "storm.beta"), (5, "storm.acme"), (5, "storm.beta"),
        ])

    def test_a_taking_back_of_an_earlier_day_goes_ahead_of_a_later_loss(self):
        rows = [loss(12, 1, 0), (2, 0, "storm", 12), loss(20, 3, 1), (4, 1, "storm", 6)]
        one, two = filled_tower(books_of(3), rows, [1]), filled_tower(books_of(3), rows, [0, 1])
        self.assertEqual(all_told(one), all_told(two))
        self.assertEqual([one.stands(1, one.made_of(0, 1, house)) for house in ("acme", "beta")], [0, 0])
        self.assertEqual([row[1] for row in one.backs(1)], [0, 0, 1, 1])
        self.assertEqual([row[0] for row in one.losses(1)], [0, 1, 4, 5])

    def test_entered_and_taken_back_within_one_close(self):
        tower = filled_tower(books_of(4), [loss(30, 1, 0), (2, 0, "storm", 30)], [0])
        for r in range(4):
            self.assertGreater(len(tower.losses(r)), 0)
            self.assertEqual({tower.stands(r, row[0]) for row in tower.losses(r)}, {0})
            self.assertEqual({tower.over(r, row[0]) for row in tower.backs(r)}, {0})
            self.assertEqual(sum(row[5] for row in tower.losses(r)), sum(row[3] for row in tower.backs(r)))

    def test_self_and_unpaid_cents_make_none(self):
        for covers in ([], [cover("low", [Own("loss", 99)])], [cover("low", houses=[("self", 3)])],
            [cover("low", [Limit("loss", 0)])]):
            tower = filled_tower([Book(covers), upper_book()], [loss(30, 1, 0), (2, 0, "storm", 9)], [0])
            self.assertEqual((tower.losses(1), tower.backs(1), tower.stands(0, 1)), ([], [], 21))
            self.refused(NotTold, tower.made_of, 0, 1, "")
            self.refused(NotTold, tower.made_of, 0, 1, "self")
            self.refused(NotTold, tower.made_of, 0, 1, "low")

    def test_one_house_by_several_covers_is_one_loss(self):
        covers = [cover("b", [Limit("loss", 3)], houses=[("acme", 1)]), cover("a", houses=[("acme", 1), ("beta", 1)])]
        tower = filled_tower([Book(covers), upper_book()], [loss(13, 1, 0), (2, 0, "storm", 11)], [0])
        self.assertEqual([row[2:] for row in tower.losses(1)],
            [("storm.acme", "acme", "hail", 8), ("storm.beta", "beta", "hail", 5)])
        self.assertEqual([row[2:] for row in tower.backs(1)], [("storm.acme", 6), ("storm.beta", 5)])

    def test_what_finds_none_is_not_handed_on(self):
        tower = filled_tower(books_of(2), [loss(12, 1, 0), (2, 0, "storm", 99), (3, 1, "storm", 5), (4, 1, "flood", 5)], [1])
        self.assertEqual([tower.over(0, number) for number in (2, 3, 4)], [87, 5, 5])
        self.assertEqual([tower.origin(1, row[0])[0] for row in tower.backs(1)], [2, 2])

    def test_closing_again_makes_nothing_new(self):
        tower = filled_tower(books_of(3), [loss(30, 1, 3), (2, 3, "storm", 4)], [3])
        ahead = all_told(tower)
        for day in (3, 0, 2, 4, 5, LAST, LAST):
            self.assertEqual(tower.close(day), [])
            self.assertEqual(all_told(tower), ahead)

    def test_no_day(self):
        tower = filled_tower(books_of(2), [loss(30, 1, 3)])
        for thing in (-1, LAST + 1, True, False, None, "3", 3.0, [3]):
            self.refused(NoEntry, tower.close, thing)
        self.assertEqual(tower.close(LAST), [1])

    def test_against_own_making(self):
        sizes = Counter()
        for chooser, books, rows in made_towers(71, 160):
            closes = sorted(chooser.sample(range(400), 3)) + [400]
            reckoned = ReckonedTower(books, rows)
            self.assertEqual(all_told(tower_of(books, rows, closes)), reckoned_told(reckoned))
            sizes.update((len(books), r) for r, row in enumerate(reckoned.rows) if row.backs())
        self.assertGreater(sizes[(4, 3)], 10)


class TestWhatComesOfIt(unittest.TestCase):
    def test_nothing_is_over_from_row_1_on_and_what_stands_is_what_the_house_bears(self):
        for chooser, books, rows in made_towers(72, 80):
            for closes in ([150], [400], range(0, 401, 40)):
                tower = tower_of(books, rows, closes)
                for r in range(1, tower.size()):
                    self.assertEqual([tower.over(r, row[0]) for row in tower.backs(r)], [0] * len(tower.backs(r)))
                    for made in tower.losses(r):
                        number, house = tower.origin(r, made[0])
                        borne = dict(by_house(tower.bears(r - 1, number)))
                        self.assertEqual(tower.stands(r, made[0]), borne.get(house, 0))
                        self.assertEqual(tower.made_of(r - 1, number, house), made[0])

    def test_any_order_and_any_closes(self):
        for chooser, books, rows in made_towers(73, 60):
            wanted = all_told(tower_of(books, rows, [400]))
            self.assertEqual(all_told(tower_of(books, rows[::-1], range(401))), wanted)
            self.assertEqual(all_told(tower_of(books, chooser.sample(rows, len(rows)), [90, 10, 200, 200, 400])), wanted)
            late = Tower([Book(covers) for covers in books])
            for day in range(0, 401, 40):
                enter_rows(late, [row for row in chooser.sample(rows, len(rows)) if row[1] == day])
                late.close(day)
            self.assertEqual(all_told(late), wanted)


class TestAsking(Case):
    def test_each_row_as_its_ledger_tells_it(self):
        for chooser, books, rows in made_towers(74, 40):
            tower, reckoned = tower_of(books, rows, [400]), ReckonedTower(books, rows)
            for r, covers in enumerate(books):
                ledger = Ledger(Book(covers))
                enter_rows(ledger, reckoned.rows[r].rows)
                ledger.close(400)
                self.assertEqual((tower.losses(r), tower.backs(r)), (ledger.settled(), ledger.backs()))
                for one in ledger.settled():
                    lo, hi = sorted((chooser.randint(0, one[5]), chooser.randint(0, one[5])))
                    self.assertEqual(tower.strips(r, one[0]), ledger.strips(one[0]))
                    self.assertEqual(tower.stands(r, one[0]), ledger.stands(one[0]))
                    self.assertEqual(tower.bears(r, one[0]), ledger.bears(one[0]))
                    self.assertEqual(tower.bears(r, one[0], lo, hi), ledger.bears(one[0], lo, hi))
                    self.assertEqual(tower.bears(r, one[0], lo=lo, hi=hi), ledger.bears(one[0], lo, hi))
                for one in ledger.backs():
                    self.assertEqual((tower.gave(r, one[0]), tower.over(r, one[0])), (ledger.gave(one[0]), ledger.over(one[0])))

    def test_no_row(self):
        tower = filled_tower(books_of(4), [loss(30, 0, 3), (1, 3, "storm", 4)], [3])
        for size in range(1, 5):
            small = filled_tower(books_of(size), [loss(30, 0, 3), (1, 3, "storm", 4)], [3])
            self.refused(NotTold, small.losses, size)
            self.refused(NotTold, small.strips, size, 0)
        for r in NO_ROWS:
            for asked in (tower.losses, tower.backs):
                self.refused(NotTold, asked, r)
            for asked in (tower.strips, tower.stands, tower.bears, tower.gave, tower.over, tower.origin):
                for number in (0, 1):
                    self.refused(NotTold, asked, r, number)
            self.refused(NotTold, tower.bears, r, 0, 0, 1)
            self.refused(NotTold, tower.made_of, r, 0, "acme")

    def test_no_number(self):
        tower = filled_tower(books_of(2), [loss(30, 7, 3), (8, 3, "storm", 4), loss(9, 9, 5)], [3])
        for number in (8, 9, 0, 10**9, -1):
            for asked in (tower.strips, tower.stands, tower.bears):
                self.refused(NotTold, asked, 0, number)
        for number in (7, 9, 0):
            for asked in (tower.gave, tower.over):
                self.refused(NotTold, asked, 0, number)
        self.assertEqual(([row[0] for row in tower.losses(1)], [row[0] for row in tower.backs(1)]), ([0, 1], [2, 3]))
        for number in (2, 3, 4, 7):
            for asked in (tower.strips, tower.stands, tower.bears):
                self.refused(NotTold, asked, 1, number)
        for number in (0, 1, 4, 8):
            for asked in (tower.gave, tower.over):
                self.refused(NotTold, asked, 1, number)

    def test_origin(self):
        tower = filled_tower(books_of(3), [loss(30, 7, 3), (8, 3, "storm", 4), loss(9, 9, 5)], [3])
        for number in (7, 8, 9, 0):
            self.refused(NotTold, tower.origin, 0, number)
        for r in (1, 2):
            made = len(tower.losses(r) + tower.backs(r))
            for number in range(made):
                self.assertIsInstance(tower.origin(r, number), tuple)
            for number in (made, -1, 10**9):
                self.refused(NotTold, tower.origin, r, number)

    def test_made_of(self):
        tower = filled_tower(books_of(2), [loss(30, 7, 3), (8, 3, "storm", 4), loss(9, 9, 5)], [3])
        self.assertEqual([tower.made_of(0, 7, house) for house in ("acme", "beta")], [0, 1])
        for number, house in ((8, "acme"), (9, "acme"), (0, "acme"), (7, "zeta"), (7, ""), (7, "self"), (7, "Acme"),
            (7, "acme.b"), (-1, "acme")):
            self.refused(NotTold, tower.made_of, 0, number, house)
        for number in (True, "7", None, [7]):
            self.refused(NotTold, filled_tower(books_of(2), [loss(30, 1, 3)], [3]).made_of, 0, number, "acme")
        self.assertEqual({row[0] for row in tower.bears(1, 0)}, {"", "acme", "zeta"})
        for number in (0, 1):
            for house in ("acme", "zeta"):
                self.refused(NotTold, tower.made_of, 1, number, house)

    def test_told_lists_are_the_askers_own(self):
        rows = [loss(30, 7, 3), (8, 3, "storm", 4), loss(9, 9, 5)]
        tower = filled_tower(books_of(3), rows)
        numbers = tower.close(3)
        wanted = all_told(tower)
        lists = [numbers, tower.foretell([(4, "storm", "roof", "hail", 9)])]
        for r, number, back in ((0, 7, 8), (1, 0, 2)):
            lists += [tower.losses(r), tower.backs(r), tower.strips(r, number), tower.bears(r, number), tower.gave(r, back)]
        for told in lists:
            told[0] = (9, 9, "other", 9)
            told.append((0, 1, "other", 5))
            self.assertEqual(all_told(tower), wanted)
            told.clear()
            self.assertEqual(all_told(tower), wanted)
        self.assertEqual(tower.close(LAST), [9])
        self.assertEqual(all_told(tower), all_told(filled_tower(books_of(3), rows, [LAST])))

    def test_a_tower_of_one_book_tells_what_a_ledger_tells(self):
        for chooser, books, rows in made_towers(75, 40):
            tower, ledger = tower_of(books[:1], rows, []), Ledger(Book(books[0]))
            enter_rows(ledger, rows)
            for day in (100, 50, 400):
                self.assertEqual(tower.close(day), ledger.close(day))
                self.assertEqual((tower.losses(0), tower.backs(0)), (ledger.settled(), ledger.backs()))
                self.assertEqual([tower.bears(0, one[0]) for one in ledger.settled()],
                    [ledger.bears(one[0]) for one in ledger.settled()])
                self.assertEqual([tower.gave(0, one[0]) for one in ledger.backs()],
                    [ledger.gave(one[0]) for one in ledger.backs()])


class TestByHouse(unittest.TestCase):
    def test_by_hand(self):
        rows = [("", "low", 0, 5), ("acme", "high", -1, 2), ("acme", "low", -1, 3), ("beta", "low", -1, 4)]
        self.assertEqual(by_house(rows), [("acme", 5), ("beta", 4)])
        self.assertEqual(by_house([]), [])
        self.assertEqual(by_house(rows[:1]), [])

    def test_several_lists_put_together(self):
        rows = [("b", "low", -1, 4), ("", "", 0, 9), ("a", "low", -1, 1), ("b", "low", -1, 10**12), ("ab", "x", -1, 7),
            ("a", "y", -1, 1)]
        copy = list(rows)
        told = by_house(rows)
        self.assertEqual(told, [("a", 2), ("ab", 7), ("b", 10**12 + 4)])
        self.assertEqual(rows, copy)
        self.assertTrue(all(isinstance(pair, tuple) for pair in told))
        told.clear()
        self.assertEqual(len(by_house(rows)), 3)


if __name__ == "__main__":
    unittest.main()
