"""[74]: who bears in the end, and the sheet. [75]: the way of one cent."""

import random
import unittest
from collections import Counter

from coverroll.books import Book
from coverroll.clauses import Limit, Own
from coverroll.conditions import ThingIs
from coverroll.errors import NotTold
from coverroll.finals import final_of, path_of, sheet_of
from coverroll.towers import Tower
from tests.making import Case, ReckonedTower, cover, filled_tower, loss, some_rows, some_towers, summed


def two_rows():
    low = cover("low", [Own("loss", 2)], houses=[("acme", 2), ("beta", 1), ("self", 1)])
    return [Book([low]), Book([cover("top", [Limit("event", 3)], ThingIs("acme"), houses=[("zeta", 1), ("beta", 1)])])]


def made_towers(seed, many, sizes=(1, 2, 3, 4)):
    chooser = random.Random(seed)
    for turn in range(many):
        books = some_towers(chooser, sizes[turn % len(sizes)])
        rows = some_rows(chooser, 9, range(0, 400, 40), backs=0.35)
        closed = chooser.choice((120, 400, 400))
        settled = [row for row in rows if row[1] <= closed]
        yield filled_tower([Book(covers) for covers in books], rows, [closed]), ReckonedTower(books, settled), rows


class TestFinal(Case):
    def test_by_hand(self):
        tower = filled_tower(two_rows(), [loss(14, 7, 3), (8, 4, "storm", 5)], [3])
        self.assertEqual(tower.bears(0, 7),
            [("", "low", 0, 2), ("", "low", 1, 3), ("acme", "low", -1, 6), ("beta", "low", -1, 3)])
        self.assertEqual(final_of(tower, 7), [(0, "", 5), (1, "acme", 3), (1, "beta", 3), (2, "beta", 1), (2, "zeta", 2)])
        tower.close(4)
        self.assertEqual(tower.bears(0, 7),
            [("", "low", 0, 2), ("", "low", 1, 1), ("acme", "low", -1, 4), ("beta", "low", -1, 2)])
        self.assertEqual(final_of(tower, 7), [(0, "", 3), (1, "acme", 1), (1, "beta", 2), (2, "beta", 1), (2, "zeta", 2)])

    def test_a_tower_of_one_book(self):
        tower = filled_tower(two_rows()[:1], [loss(14, 7, 3), (8, 4, "storm", 5)], [3])
        self.assertEqual(final_of(tower, 7), [(0, "", 5), (1, "acme", 6), (1, "beta", 3)])
        tower.close(4)
        self.assertEqual(final_of(tower, 7), [(0, "", 3), (1, "acme", 4), (1, "beta", 2)])

    def test_no_cover_asked(self):
        for size in range(1, 5):
            tower = filled_tower([Book([])] * size, [loss(14, 7, 3)], [3])
            self.assertEqual(final_of(tower, 7), [(0, "", 14)])

    def test_a_house_that_nobody_covers(self):
        tower = filled_tower(two_rows()[:1] + [Book([])] * 3, [loss(14, 7, 3)], [3])
        self.assertEqual(final_of(tower, 7), [(0, "", 5), (1, "acme", 6), (1, "beta", 3)])

    def test_houses_all_the_way_up(self):
        tower = filled_tower([Book([cover("low", houses=[("acme", 1)])])] * 4, [loss(14, 7, 3)], [3])
        self.assertEqual(final_of(tower, 7), [(4, "acme", 14)])
        self.assertEqual(sheet_of(tower), [(4, "acme", 14)])

    def test_one_house_in_several_rows_and_by_several_ways(self):
        low = Book([cover("low", houses=[("acme", 1), ("beta", 1)])])
        tower = filled_tower([low, low], [loss(8, 7, 3)], [3])
        self.assertEqual(final_of(tower, 7), [(2, "acme", 4), (2, "beta", 4)])
        back = Book([cover("low", [Own("loss", 1)], houses=[("self", 1), ("acme", 3)])])
        self.assertEqual(final_of(filled_tower([low, back], [loss(8, 7, 3)], [3]), 7),
            [(1, "acme", 2), (1, "beta", 2), (2, "acme", 4)])

    def test_where_nothing_stands(self):
        tower = filled_tower(two_rows(), [loss(14, 7, 3), (8, 3, "storm", 14)], [3])
        self.assertEqual((final_of(tower, 7), sheet_of(tower)), ([], []))

    def test_not_told(self):
        tower = filled_tower(two_rows(), [loss(14, 7, 3), (8, 3, "storm", 5), loss(9, 9, 5), (10, 5, "storm", 5)], [3])
        for number in (8, 9, 10, 0, 1, 10**9):
            self.refused(NotTold, final_of, tower, number)
            self.refused(NotTold, path_of, tower, number, 0)
        tower.close(5)
        for number in (8, 10, 0, 1):
            self.refused(NotTold, final_of, tower, number)
            self.refused(NotTold, path_of, tower, number, 0)
        self.assertEqual(sum(row[2] for row in final_of(tower, 9)), 4)

    def test_against_the_ends_of_single_cents(self):
        seen = Counter()
        for tower, reckoned, rows in made_towers(74, 160):
            numbers = [one[0] for one in tower.losses(0)]
            for number in numbers:
                told = final_of(tower, number)
                self.assertEqual(told, reckoned.ends([number]))
                self.assertEqual(sum(row[2] for row in told), tower.stands(0, number))
                seen.update((tower.size(), r) for r, who, cents in told)
            self.assertEqual(sheet_of(tower), reckoned.ends(numbers))
        self.assertTrue(all(seen[(size, r)] > 3 for size in range(1, 5) for r in range(size + 1)), seen)

    def test_the_sheet_is_all_of_them_together(self):
        for tower, reckoned, rows in made_towers(75, 60):
            together = Counter()
            for one in tower.losses(0):
                for r, who, cents in final_of(tower, one[0]):
                    together[(r, who)] += cents
            self.assertEqual(sheet_of(tower), sorted(key + (cents,) for key, cents in together.items()))

    def test_an_empty_sheet(self):
        self.assertEqual(sheet_of(Tower(two_rows())), [])
        self.assertEqual(sheet_of(filled_tower(two_rows(), [loss(14, 7, 3)], [2])), [])

    def test_great_numbers(self):
        most = 10**12 - 1
        tower = filled_tower(two_rows(), [loss(most, number, 3) for number in range(9)], [3])
        self.assertEqual(sum(row[2] for row in sheet_of(tower)), 9 * most)

    def test_asking_changes_nothing_and_what_is_told_is_the_askers_own(self):
        tower = filled_tower(two_rows(), [loss(14, 7, 3), (8, 4, "storm", 5)], [3])
        for asked in (lambda: final_of(tower, 7), lambda: sheet_of(tower), lambda: path_of(tower, 7, 2)):
            wanted = asked()
            told = asked()
            told[0] = (5, "other", 9)
            told.append((0, "", 1))
            self.assertEqual(asked(), wanted)
            told.clear()
            self.assertEqual(asked(), wanted)
            self.assertTrue(all(isinstance(row, tuple) for row in wanted))
        self.assertEqual(tower.close(4), [8])


class TestPath(Case):
    def test_by_hand(self):
        tower = filled_tower(two_rows(), [loss(14, 7, 3), (8, 4, "storm", 5)], [4])
        ways = [path_of(tower, 7, cent) for cent in range(14)]
        self.assertEqual(ways[0], [(0, 7, 0, "", "low", 0)])
        self.assertEqual([way[0][3] for way in ways[2:]], ["acme", "beta", "acme", ""] * 3)
        self.assertEqual(ways[5], [(0, 7, 5, "", "low", 1)])
        self.assertEqual([ways[cent] for cent in (2, 4, 6, 8)], [
            [(0, 7, 2, "acme", "low", -1), (1, 0, 0, "zeta", "top", -1)],
            [(0, 7, 4, "acme", "low", -1), (1, 0, 1, "beta", "top", -1)],
            [(0, 7, 6, "acme", "low", -1), (1, 0, 2, "zeta", "top", -1)], [(0, 7, 8, "acme", "low", -1), (1, 0, 3, "", "top", 0)],
        ])
        self.assertEqual(ways[3], [(0, 7, 3, "beta", "low", -1), (1, 1, 0, "", "", 0)])
        self.assertEqual(ways[11], [(0, 7, 11, "beta", "low", -1), (1, 1, 2, "", "", 0)])

    def test_a_tower_of_one_book(self):
        tower = filled_tower(two_rows()[:1], [loss(14, 7, 3)], [4])
        self.assertEqual([path_of(tower, 7, cent) for cent in (0, 2)],
            [[(0, 7, 0, "", "low", 0)], [(0, 7, 2, "acme", "low", -1)]])

    def test_the_ways_of_all_cents(self):
        lengths, ends = Counter(), Counter()
        for tower, reckoned, rows in made_towers(76, 90, sizes=(2, 3, 4)):
            for one in tower.losses(0):
                for cent in range(one[5]):
                    way = path_of(tower, one[0], cent)
                    self.assertEqual(way, reckoned.path(one[0], cent))
                    lengths[(tower.size(), len(way))] += 1
                    ends[(way[-1][3] == "", way[-1][4] == "", cent >= tower.stands(0, one[0]))] += 1
        self.assertTrue(all(lengths[(size, steps)] > 5 for size in (2, 3, 4) for steps in range(1, size + 1)), lengths)
        self.assertTrue(all(ends[(True, no_cover, gone)] > 5 for no_cover in (True, False) for gone in (True, False)), ends)

    def test_the_ways_of_all_standing_cents_end_with_who_bears_them(self):
        for tower, reckoned, rows in made_towers(77, 40):
            for one in tower.losses(0):
                ends = []
                for cent in range(tower.stands(0, one[0])):
                    r, number, place, house, name, k = path_of(tower, one[0], cent)[-1]
                    ends.append((r + 1, house) if house else (r, tower.origin(r, number)[1] if r else ""))
                self.assertEqual(final_of(tower, one[0]), summed(ends))

    def test_great_numbers(self):
        most = 10**12 - 1
        tower = filled_tower([Book([cover("low", houses=[("acme", 1), ("beta", 1)])])] * 4, [loss(most, 7, 3)], [3])
        self.assertEqual([step[2] for step in path_of(tower, 7, 10**11)], [10**11, 5 * 10**10, 25 * 10**9, 125 * 10**8])


if __name__ == "__main__":
    unittest.main()
