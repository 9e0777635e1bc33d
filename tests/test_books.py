"""[41]: books and the order of asking. [3]: what stays."""

import itertools
import unittest

from coverroll.books import Book
from coverroll.conditions import Condition, Not
from coverroll.covers import Cover
from coverroll.errors import NoBook, NotTold


def covers(names, waiting=""):
    return [Cover(name, Condition(), waits=name in waiting) for name in names]


def names(several):
    return [cover.name for cover in several]


class TestRefused(unittest.TestCase):
    def test_more_than_eight(self):
        for many in range(9, 13):
            self.assertRaises(NoBook, Book, covers("abcdefghijklmnop"[:many]))

    def test_two_of_one_name(self):
        for several in ("aa", "aba", "abb", "abcdefga", "abcdefgg", "abca", "abcdefghh", "aaaaaaaaa"):
            self.assertRaises(NoBook, Book, covers(several))
        self.assertRaises(NoBook, Book, [Cover("low", Condition()), Cover("low", Not(Condition()), [], [("b", 2)], True)])
        one = Cover("low", Condition())
        self.assertRaises(NoBook, Book, [one, one])

    def test_none_to_eight_are_taken(self):
        for many in range(9):
            several = covers("abcdefgh"[:many], "bdfh")
            self.assertEqual(Book(several).covers, several)


class TestOrder(unittest.TestCase):
    def test_firm_ones_and_such_that_wait(self):
        for many in range(6):
            for waits in itertools.product((False, True), repeat=many):
                several = [Cover("edcba"[k], Condition(), waits=waits[k]) for k in range(many)]
                book = Book(several)
                firm = [cover for cover in several if not cover.waits]
                self.assertEqual(book.asking, firm + [cover for cover in several if cover.waits])
                self.assertEqual(book.covers, several)

    def test_by_hand(self):
        self.assertEqual(names(Book(covers("hgfedcba", "hfca")).asking), list("gedbhfca"))
        self.assertEqual(names(Book(covers("cab", "cab")).asking), list("cab"))
        self.assertEqual(names(Book(covers("cab")).asking), list("cab"))
        self.assertEqual(Book([]).asking, [])
        self.assertEqual(Book([]).covers, [])


class TestNamed(unittest.TestCase):
    def test_each_by_its_name(self):
        several = covers("hgfedcba", "hfca")
        book = Book(several)
        for cover in several:
            self.assertIs(book.named(cover.name), cover)

    def test_not_told(self):
        for several in ([], covers("ab", "b"), [Cover("low", Condition())]):
            for name in ("", "c", "A", "aa", "lo", "lows", "self", "always", "a b", "LOW"):
                self.assertRaises(NotTold, Book(several).named, name)


class TestWhatStays(unittest.TestCase):
    def test_the_list_handed_in_stays(self):
        several = covers("dcba", "db")
        first = list(several)
        book = Book(several)
        book.named("a")
        self.assertEqual(several, first)

    def test_a_change_of_it_behind_the_call_changes_nothing(self):
        for waiting in ("", "db", "dcba"):
            several = covers("dcba", waiting)
            first = list(several)
            book = Book(several)
            asking = list(book.asking)
            several[0] = Cover("x", Condition())
            several.append(Cover("y", Condition()))
            self.assertEqual(book.covers, first)
            self.assertEqual(book.asking, asking)
            several.clear()
            self.assertEqual(book.covers, first)
            self.assertEqual(book.asking, asking)
            self.assertIs(book.named("d"), first[0])
            self.assertRaises(NotTold, book.named, "x")

    def test_one_cover_in_two_books(self):
        several = covers("ab", "a")
        self.assertEqual(Book(several).asking, several[::-1])
        self.assertEqual(Book(several[::-1]).covers, several[::-1])
        self.assertEqual(Book(several[:1]).asking, several[:1])


if __name__ == "__main__":
    unittest.main()
