"""The whole program, through the desk: [1], [5] to [7], [53], [65], [72], [74], [85]; refusals: [4]; what is told: [3]."""

import itertools
import random
import unittest

from coverroll.books import Book
from coverroll.cents import read_cents, show_cents
from coverroll.clauses import Limit
from coverroll.desk import Desk
from coverroll.errors import CoverError, NotTold
from coverroll.texts import show_book
from tests.making import ReckonedTower, cover, some_clause, some_condition, some_rows, some_towers
from tests.test_desk import all_answers, as_row


def parts(answer):
    """The words of each thing that an answer shows."""
    return [] if answer == "nothing" else [text.split(" ") for text in answer.split("; ")]


def amounts(answer):
    return sum(read_cents(words[-1]) for words in parts(answer))


def desk_of(books, rows, closes, order=None):
    """A desk that was told rows, each ahead of the close of its day."""
    desk = Desk(books)
    for day in closes:
        for row in order or rows:
            if row[1] <= day and (day == closes[0] or row[1] > closes[closes.index(day) - 1]):
                desk.say(as_row(row))
        desk.say(f"close {day}")
    return desk


def made_desks(seed, many):
    chooser = random.Random(seed)
    for turn in range(many):
        covers = some_towers(chooser, 1 + turn % 4)
        books = [show_book(Book(several)) for several in covers]
        yield chooser, covers, books, some_rows(chooser, 10, range(0, 400, 40), backs=0.35)


class TestOrder(unittest.TestCase):
    def test_the_same_rows_in_another_order(self):
        for chooser, covers, books, rows in made_desks(53, 24):
            rows = [(number,) + row[1:] for number, row in enumerate(rows)]
            wanted = all_answers(desk_of(books, rows, [400]))
            other = chooser.sample(rows, len(rows))
            self.assertEqual(all_answers(desk_of(books, rows, [400], other)), wanted)
            self.assertEqual(all_answers(desk_of(books, rows, list(range(0, 401, 40)), other)), wanted)
            self.assertEqual(all_answers(desk_of(books, rows, [90, 210, 400], rows[::-1])), wanted)

    def test_refused_rows_between_change_nothing(self):
        for chooser, covers, books, rows in made_desks(54, 12):
            desk, plain = Desk(books), Desk(books)
            for row in rows:
                for bad in ("loss", "close 01", f"loss {row[0]} 5 storm roof hail 0.00", f"back {row[0]} 5 Storm 1.00",
                    "close 1000001", "strips 0 999",
                            "gave 9 0", "look 0.00 0.00 0.00", "path 999 0", "foretell 1 storm roof hail 0.00"):
                    with self.assertRaises(CoverError):
                        desk.say(bad)
                self.assertEqual((desk.say(as_row(row)), plain.say(as_row(row))), ("ok", "ok"))
                with self.assertRaises(CoverError):
                    desk.say(as_row(row))
            self.assertEqual(desk.say("close 400"), plain.say("close 400"))
            self.assertEqual(all_answers(desk), all_answers(plain))


class TestSums(unittest.TestCase):
    def test_what_bears_comes_to_what_stands_and_the_ends_are_the_sheet(self):
        for chooser, covers, books, rows in made_desks(74, 60):
            desk = desk_of(books, rows, [chooser.choice((40, 200)), 400])
            standing, ends = 0, {}
            for row in rows:
                if len(row) == 6:
                    stands = read_cents(desk.say(f"stands 0 {row[0]}"))
                    standing += stands
                    self.assertEqual(amounts(desk.say(f"bears 0 {row[0]}")), stands)
                    self.assertEqual(amounts(desk.say(f"final {row[0]}")), stands)
                    for r, who, cents in parts(desk.say(f"final {row[0]}")):
                        ends[(r, who)] = ends.get((r, who), 0) + read_cents(cents)
            sheet = {(r, who): read_cents(cents) for r, who, cents in parts(desk.say("sheet"))}
            self.assertEqual(sheet, ends)
            found = sum(row[3] - read_cents(desk.say(f"over 0 {row[0]}")) for row in rows if len(row) == 4)
            self.assertEqual(standing + found, sum(row[5] for row in rows if len(row) == 6))

    def test_strips_go_end_to_end_and_pieces_come_to_what_was_found(self):
        for chooser, covers, books, rows in made_desks(43, 40):
            desk = desk_of(books, rows, [400])
            for row in rows:
                if len(row) == 6:
                    ends = [words[0].split("-") for words in parts(desk.say(f"strips 0 {row[0]}"))]
                    self.assertEqual([lo for lo, hi in ends] + [show_cents(row[5])], ["0.00"] + [hi for lo, hi in ends])
                else:
                    pieces = [[read_cents(end) for end in words[1].split("-")] for words in parts(desk.say(f"gave 0 {row[0]}"))]
                    self.assertEqual(sum(hi - lo for lo, hi in pieces), row[3] - read_cents(desk.say(f"over 0 {row[0]}")))

    def test_what_stands_in_the_next_row_is_what_the_houses_bear(self):
        for chooser, covers, books, rows in made_desks(72, 60):
            desk = desk_of(books, rows, [160, 400])
            for r in range(len(books) - 1):
                borne = 0
                for number in self.numbers_of(desk, r, rows):
                    borne += sum(read_cents(words[-1]) for words in parts(desk.say(f"bears {r} {number}")) if words[0] != "-")
                standing = sum(read_cents(desk.say(f"stands {r + 1} {number}")) for number in self.numbers_of(desk, r + 1, rows))
                self.assertEqual(standing, borne)

    def numbers_of(self, desk, r, rows):
        """The numbers of a row's losses, by asking for all of them."""
        if r == 0:
            return [row[0] for row in rows if len(row) == 6]
        numbers = []
        for number in range(400):
            try:
                desk.say(f"stands {r} {number}")
                numbers.append(number)
            except NotTold:
                pass
        return numbers

    def test_no_limit_is_passed_and_one_that_is_borne_is_full(self):
        for chooser, covers, books, rows in made_desks(7, 60):
            losses = sorted([row for row in rows if len(row) == 6], key=lambda row: (row[1], row[0]))
            desk = desk_of(books, rows, [400])
            paid = {}
            for row in losses:
                keys = {"event": row[2], "thing": row[3], "year": row[1] // 365, "loss": row[0]}
                strips = [(read_cents(words[0].split("-")[1]) - read_cents(words[0].split("-")[0]), words[1], words[-1])
                          for words in parts(desk.say(f"strips 0 {row[0]}"))]
                for payer in covers[0]:
                    cents = sum(size for size, name, k in strips if (name, k) == (payer.name, "paid"))
                    for k, clause in enumerate(payer.clauses):
                        if isinstance(clause, Limit):
                            place = (payer.name, k, keys[clause.by])
                            paid[place] = paid.get(place, 0) + cents
                            self.assertLessEqual(paid[place], clause.most)
                            if any((name, number) == (payer.name, str(k)) for size, name, number in strips):
                                self.assertEqual(paid[place], clause.most)

    def test_against_the_tests_own_reckoning(self):
        for chooser, covers, books, rows in made_desks(75, 24):
            desk, reckoned = desk_of(books, rows, [400]), ReckonedTower(covers, rows)
            ends = reckoned.ends([row[0] for row in reckoned.rows[0].losses()])
            self.assertEqual(desk.say("sheet"),
                "; ".join(f"{r} {who or '-'} {show_cents(cents)}" for r, who, cents in ends) or "nothing")


class TestLook(unittest.TestCase):
    BOUND = 24

    def cases(self, seed, many):
        chooser = random.Random(seed)
        for turn in range(many):
            covers = []
            for name in ("dd", "b", "cc")[:1 + turn % 3]:
                clauses = [some_clause(chooser) for k in range(chooser.choice((0, 1, 2)))]
                covers.append(cover(name, clauses, some_condition(chooser), chooser.random() < 0.25))
            yield chooser, covers, sorted((chooser.randint(0, 12), chooser.randint(0, 26)))

    def strips(self, covers, cents, day, thing, cause):
        """What a fresh desk tells of the cents of one loss: whether they are paid."""
        desk = Desk([show_book(Book(covers))])
        desk.say(f"loss 0 {day} x {thing} {cause} {show_cents(cents)}")
        desk.say(f"close {day}")
        paid = []
        for words in parts(desk.say("strips 0 0")):
            lo, hi = [read_cents(end) for end in words[0].split("-")]
            paid += [words[-1] == "paid"] * (hi - lo)
        return paid

    def fault(self, covers, wish, *one):
        """The word and the least cent of a fault of this one loss, by settling it."""
        alone = [self.strips([payer], *one) for payer in covers if not payer.waits]
        twice = [cent for cent in range(one[0]) if sum(paid[cent] for paid in alone) > 1]
        unpaid = [cent for cent, paid in enumerate(self.strips(covers, *one)) if not paid and wish[0] <= cent < wish[1]]
        return ("double", twice[0]) if twice else ("gap", unpaid[0]) if unpaid else None

    def test_a_fault_is_found_by_settling_such_a_loss_and_no_lesser_one_has_one(self):
        words = []
        for chooser, covers, wish in self.cases(85, 36):
            desk = Desk([show_book(Book(covers))])
            answer = desk.say(f"look {show_cents(self.BOUND)} {show_cents(wish[0])} {show_cents(wish[1])}").split(" ")
            words.append(answer[0])
            cents = self.BOUND + 1
            if answer[0] != "nothing":
                cents = read_cents(answer[1])
                thing = {"-": "any"}.get(answer[4], answer[4])
                cause = {"-": "any"}.get(answer[3], answer[3])
                for day in answer[5:7]:
                    self.assertEqual(self.fault(covers, wish, cents, day, thing, cause), (answer[0], int(answer[2])))
            for lesser in range(1, cents):
                for day, thing, cause in itertools.product((0, 400, 401), ("roof", "wall", "any"), ("hail", "fire", "any")):
                    self.assertIsNone(self.fault(covers, wish, lesser, day, thing, cause))
        self.assertEqual(set(words), {"gap", "double", "nothing"})


if __name__ == "__main__":
    unittest.main()
