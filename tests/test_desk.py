"""[93]: the desk. [94]: its answers. [95]: its refusals."""

import random
import unittest

from coverroll.answers import show_bearers, show_ends, show_fault, show_path, show_pieces, show_strips
from coverroll.books import Book
from coverroll.cents import show_cents
from coverroll.desk import Desk
from coverroll.errors import Late, NoBook, NoEntry, NoRow, NotTold, NoText, TooWide, Twice
from coverroll.finals import final_of, path_of, sheet_of
from coverroll.papers import first_fault, paper_of
from coverroll.texts import read_book, show_book
from coverroll.towers import Tower
from tests.making import Case, enter_rows, some_loss, some_rows, some_towers

LOW = ["cover low", "own event 1.00", "limit year 5.00", "share acme 2 self 1", "cover high", "when over 3.00",
    "layer event 3.00 9.00"]
TOP = ["cover top", "when thing acme", "own loss 0.50", "share zeta 1"]
WIDE = ["cover a"] + ["when " + " or ".join(f"over 0.{10 + k}" for k in range(8))] + ["cover b",
    "when " + " or ".join(f"over 0.{20 + k}" for k in range(7))]
WIDE += ["cover c", "when cause a or cause b or thing c or days 5 9"]

ROWS = [
    "loss 1 40 storm roof hail 10.00", "back 2 41 storm 6.00", "close 41", "foretell 42 storm roof hail 4.00",
    "strips 0 1", "stands 0 1", "bears 0 1",
    "gave 0 2", "over 0 2", "final 1", "sheet", "path 1 163", "look 20.00 1.00 9.00",
]


def as_row(row):
    """A loss or a taking back as a row of the desk."""
    if len(row) == 6:
        return f"loss {row[0]} {row[1]} {row[2]} {row[3]} {row[4]} {show_cents(row[5])}"
    return f"back {row[0]} {row[1]} {row[2]} {show_cents(row[3])}"


def told(desk, rows):
    desk = desk if isinstance(desk, Desk) else Desk(desk)
    return [desk.say(row) for row in rows]


def all_answers(desk):
    """What the desk answers to all askings, refusals by their class."""
    rows = ["sheet", "foretell 900000 storm roof hail 4.00", "look 9.00 0.00 9.00"]
    for number in range(12):
        rows += [f"{word} {r} {number}" for word in ("strips", "stands", "bears", "gave", "over") for r in range(4)]
        rows += [f"final {number}", f"path {number} 0", f"path {number} 57"]
    answers = []
    for row in rows:
        try:
            answers.append(desk.say(row))
        except (NotTold, Late, NoEntry, TooWide) as refusal:
            answers.append(refusal.__class__)
    return answers


class TestMaking(Case):
    def test_one_to_four_books(self):
        for size in range(1, 5):
            self.assertEqual(Desk([LOW] * size).say("sheet"), "nothing")
            self.refused(NotTold, Desk([LOW] * size).say, f"strips {size} 0")
        self.assertEqual(Desk([[]]).say("look 1.00 0.00 1.00"), "gap 0.01 0 - - 0 1000000")

    def test_none_five_and_what_is_no_list(self):
        for thing in ([], [LOW] * 5, (LOW,), None, 5, "cover low", {0: LOW}, True, [["bad"]] * 5, (["bad"],)):
            self.refused(NoBook, Desk, thing)

    def test_no_text_of_the_first_one_for_which_it_is_due(self):
        for books, at in (
            ([["bad"]], 0), ([LOW, LOW + ["bad"]], 7), ([LOW, LOW[:3] + ["bad"], ["bad"]], 3),
            ([LOW + ["bad"], ["bad"]], 7), ([LOW, None], 0),
            ([LOW, "cover low"], 0), ([LOW[:2] + ["own"], None], 2), ([5], 0), ([tuple(LOW)], 0),
            ([LOW, LOW, LOW, ["cover a", "cover a"]], 1),
        ):
            with self.assertRaises(NoText) as caught:
                Desk(books)
            self.assertEqual(caught.exception.at, at)

    def test_the_lists_changed_behind_the_making(self):
        books = [list(LOW), list(TOP)]
        desk = Desk(books)
        books[0].append("cover more")
        books[1].clear()
        books.append(list(TOP))
        self.assertEqual(told(desk, ROWS), told([LOW, TOP], ROWS))
        books = [list(LOW), list(TOP)]
        Desk(books)
        self.assertEqual(books, [LOW, TOP])

    def test_two_desks_are_free_of_one_another(self):
        one, other = Desk([LOW, TOP]), Desk([LOW, TOP])
        told(one, ROWS)
        self.assertEqual(other.say("sheet"), "nothing")
        self.assertEqual(told(other, ROWS), told([LOW, TOP], ROWS))


class TestAnswers(Case):
    def test_by_hand(self):
        self.assertEqual(told([LOW, TOP], ROWS), [
            "ok", "ok", "1 2", "0.00-4.00 low 1",
            "0.00-1.00 low 0; 1.00-6.00 low paid; 6.00-9.00 high paid; 9.00-10.00 low 1", "4.00",
            "- low 0 1.00; - low 2 1.00; acme low 2.00", "1 4.00-10.00", "0.00", "0 - 2.00; 1 acme 0.50; 2 zeta 1.50",
            "0 - 2.00; 1 acme 0.50; 2 zeta 1.50", "0 1 163 acme low; 1 0 42 - top 0", "double 3.01 300 - - 0 1000000",
        ])

    def test_nothing(self):
        desk = Desk([LOW, TOP])
        for row in ("close 3", "sheet", "close 2"):
            self.assertEqual(desk.say(row), "nothing")
        told(desk, ["loss 1 5 storm roof hail 1.00", "back 2 5 storm 3.00", "back 3 5 flood 1.00"])
        self.assertEqual(told(desk, ["close 5", "close 5", "bears 0 1", "stands 0 1", "gave 0 3", "over 0 2",
            "over 0 3", "final 1", "sheet"]), [
            "1 2 3", "nothing", "nothing", "0.00", "nothing", "2.00", "1.00", "nothing", "nothing",
        ])
        self.assertEqual(Desk([["cover a"]]).say("look 9.00 0.00 9.00"), "nothing")

    def test_no_cover_asked(self):
        rows = ["loss 1 5 storm roof hail 1.00", "close 5", "strips 0 1", "bears 0 1", "path 1 99",
            "foretell 6 storm roof hail 0.01"]
        self.assertEqual(told([["cover a", "when cause fire"]], rows)[2:],
            ["0.00-1.00 none", "- none 1.00", "0 1 99 - none", "0.00-0.01 none"])

    def test_numbers_of_ten_figures(self):
        rows = ["loss 1000000000 1000000 storm roof hail 9999999999.99", "close 1000000", "stands 0 1000000000",
            "path 1000000000 999999999998"]
        self.assertEqual(told([["cover a"]], rows), ["ok", "1000000000", "9999999999.99", "0 1000000000 999999999998 a a"])

    def test_against_the_tower_and_the_looker(self):
        chooser = random.Random(93)
        for turn in range(40):
            books = [show_book(Book(covers)) for covers in some_towers(chooser, 1 + turn % 4)]
            desk, tower = Desk(books), Tower([read_book(rows) for rows in books])
            rows = some_rows(chooser, 10, range(0, 400, 40))
            for row in chooser.sample(rows, len(rows)):
                self.assertEqual(desk.say(as_row(row)), "ok")
            enter_rows(tower, rows)
            for day in (120, 400):
                self.assertEqual(desk.say(f"close {day}"), " ".join(map(str, tower.close(day))) or "nothing")
            self.same_answers(chooser, desk, tower)
            self.same_looks(chooser, desk, read_book(books[0]))

    def same_answers(self, chooser, desk, tower):
        for r in range(tower.size()):
            for one in tower.losses(r):
                self.assertEqual(desk.say(f"strips {r} {one[0]}"), show_strips(tower.strips(r, one[0])))
                self.assertEqual(desk.say(f"stands {r} {one[0]}"), show_cents(tower.stands(r, one[0])))
                self.assertEqual(desk.say(f"bears {r} {one[0]}"), show_bearers(tower.bears(r, one[0])))
            for one in tower.backs(r):
                self.assertEqual(desk.say(f"gave {r} {one[0]}"), show_pieces(tower.gave(r, one[0])))
                self.assertEqual(desk.say(f"over {r} {one[0]}"), show_cents(tower.over(r, one[0])))
        for one in tower.losses(0):
            self.assertEqual(desk.say(f"final {one[0]}"), show_ends(final_of(tower, one[0])))
            for cent in {0, one[5] - 1, chooser.randrange(one[5])}:
                self.assertEqual(desk.say(f"path {one[0]} {cent}"), show_path(path_of(tower, one[0], cent)))
        self.assertEqual(desk.say("sheet"), show_ends(sheet_of(tower)))
        row = some_loss(chooser, 0, (401, 700))[1:]
        self.assertEqual(desk.say(f"foretell {row[0]} {row[1]} {row[2]} {row[3]} {show_cents(row[4])}"),
            show_strips(tower.foretell([row])[0]))

    def same_looks(self, chooser, desk, book):
        for times in range(3):
            bound = chooser.choice((1, 30, 60))
            first, upto = sorted((chooser.randint(0, 40), chooser.randint(0, 40)))
            wanted = show_fault(first_fault(paper_of(book, bound), first, upto))
            self.assertEqual(desk.say(f"look {show_cents(bound)} {show_cents(first)} {show_cents(upto)}"), wanted)

    def test_a_look_is_of_the_first_book_and_of_a_fresh_one(self):
        desk = Desk([LOW, TOP])
        ahead = desk.say("look 20.00 1.00 9.00")
        told(desk, ROWS)
        self.assertEqual(desk.say("look 20.00 1.00 9.00"), ahead)
        self.assertEqual(Desk([LOW]).say("look 20.00 1.00 9.00"), ahead)
        self.assertNotEqual(Desk([TOP, LOW]).say("look 20.00 1.00 9.00"), ahead)
        self.assertEqual(desk.say("look 20.00 1.00 1.00"), "double 3.01 300 - - 0 1000000")
        self.assertEqual(desk.say("look 3.00 1.00 1.00"), "nothing")

    def test_asking_changes_nothing(self):
        desk = Desk([LOW, TOP])
        told(desk, ROWS[:3])
        ahead = all_answers(desk)
        for times in range(2):
            told(desk, ROWS[3:])
            self.assertEqual(all_answers(desk), ahead)


class TestRefused(Case):
    def setUp(self):
        self.desk = Desk([LOW, TOP])
        told(self.desk, ["loss 1 40 storm roof hail 10.00", "back 2 41 storm 6.00", "loss 4 50 storm roof hail 1.00", "close 41"])
        self.ahead = all_answers(self.desk)

    def none(self, error, *rows, value=None):
        for row in rows:
            self.refused(error, self.desk.say, row, value=value)
            self.assertEqual(all_answers(self.desk), self.ahead)

    def test_no_text(self):
        self.none(NoRow, None, 5, True, ["sheet"], ("close", 3), b"sheet", {})

    def test_a_word_too_many_or_too_few_and_a_blank_more(self):
        for row in ROWS:
            words = row.split(" ")
            self.none(NoRow, row + " ", row + " 5", row + " 5.00", " " + row, row + "\n", row + " storm", words[0] + "x " + row)
            if len(words) > 1:
                self.none(NoRow, " ".join(words[:-1]), words[0], " ".join(words[:1] + words[2:]),
                    row.replace(" ", "  ", 1), row.replace(" ", "\t", 1))

    def test_another_first_word(self):
        for row in ROWS:
            first, blank, rest = row.partition(" ")
            self.none(NoRow, *[word + blank + rest for word in ("Loss", first.upper(), first + "s", first[:-1], "",
                "enter", "ok")])
        self.none(NoRow, "", " ", "nothing", "1", "sheets", "shee t")

    def test_numbers_written_otherwise(self):
        places = {
            "loss": (1, 2), "back": (1, 2), "close": (1,), "foretell": (1,), "strips": (1, 2), "stands": (1, 2),
            "bears": (1, 2), "gave": (1, 2), "over": (1, 2), "final": (1,), "path": (1, 2),
        }
        for row in ROWS:
            words = row.split(" ")
            for place in places.get(words[0], ()):
                wrong = ["", "01", "00", "-1", "+1", "1.0", "1.00", "x", "1x", "1_0", "\u0661", "\u00b2", "0x1", "1e3"]
                wrong += ["1" * 13, "1" * 14] + (["1" * 11, "1" * 12] if (words[0], place) != ("path", 2) else [])
                self.none(NoRow, *[" ".join(words[:place] + [word] + words[place + 1:]) for word in wrong])

    def test_amounts_written_otherwise(self):
        places = {"loss": (6,), "back": (4,), "foretell": (5,), "look": (1, 2, 3)}
        for row in ROWS:
            words = row.split(" ")
            for place in places.get(words[0], ()):
                wrong = ["", "5", "5.0", "5.000", "05.00", ".50", "-5.00", "+5.00", "5,00", "10000000000.00", "x",
                    "1e3.00", "5.00\n"]
                self.none(NoRow, *[" ".join(words[:place] + [word] + words[place + 1:]) for word in wrong])

    def test_a_wish_that_falls(self):
        self.none(NoRow, "look 20.00 9.00 1.00", "look 20.00 0.01 0.00", "look 0.00 0.01 0.00")
        self.assertEqual(self.desk.say("look 2.00 9.00 9.00"), "nothing")

    def test_as_the_tower_refuses(self):
        self.none(NoEntry, "loss 5 60 storm roof hail 0.00", "loss 1000000001 60 storm roof hail 1.00",
            "loss 9999999999 60 storm roof hail 1.00")
        self.none(NoEntry, "loss 5 1000001 storm roof hail 1.00", "loss 5 60 Storm roof hail 1.00",
            "loss 5 60 a.b.c.d roof hail 1.00", "loss 5 60 storm Roof hail 1.00")
        self.none(NoEntry, "loss 5 60 storm roof hailhailh 1.00", "loss 5 60  roof hail 1.00",
            "loss 5 60 storm  hail 1.00", "loss 5 60 storm roof  1.00")
        self.none(NoEntry, "back 5 60 storm 0.00", "back 5 60  1.00", "back 5 60 a.b.c.d 1.00", "back 5 60 5 1.00",
            "back 1000000001 60 storm 1.00")
        self.none(NoEntry, "close 1000001", "close 9999999999", "foretell 60 storm roof hail 0.00",
            "foretell 60 a.b.c.d roof hail 1.00", "foretell 60  roof hail 1.00")
        self.none(NoEntry, "foretell 1000001 storm roof hail 1.00", "foretell 41 storm roof x1 1.00",
            "loss 1 41 storm roof hail 0.00")
        self.none(Twice, "loss 1 60 storm roof hail 1.00", "loss 1 41 storm roof hail 1.00", "back 1 60 storm 1.00", value=1)
        self.none(Twice, "loss 2 60 storm roof hail 1.00", "back 2 60 storm 1.00", value=2)
        self.none(Twice, "back 4 60 storm 1.00", value=4)
        self.none(Late, "loss 5 41 storm roof hail 1.00", "loss 5 0 storm roof hail 1.00", "back 5 41 storm 1.00",
            "foretell 41 storm roof hail 1.00", value=41)

    def test_not_told(self):
        for word in ("strips", "stands", "bears"):
            self.none(NotTold, f"{word} 0 2", f"{word} 0 4", f"{word} 0 0", f"{word} 0 9999999999", f"{word} 2 0",
                f"{word} 9999999999 0")
        for word in ("gave", "over"):
            self.none(NotTold, f"{word} 0 1", f"{word} 0 4", f"{word} 0 3", f"{word} 2 0", f"{word} 1 0")
        self.none(NotTold, "final 2", "final 4", "final 0", "final 9999999999")

    def test_paths(self):
        self.none(NotTold, "path 1 1000", "path 1 1001", "path 1 999999999999", "path 2 0", "path 4 0", "path 0 0", "path 2 1000")
        self.assertEqual(self.desk.say("path 1 999"), "0 1 999 - low 1")
        self.assertEqual(self.desk.say("path 1 0"), "0 1 0 - low 0")

    def test_looks(self):
        self.none(NoEntry, "look 0.00 0.00 1.00", "look 0.00 0.00 0.00")
        wide = Desk([WIDE, LOW])
        self.refused(TooWide, wide.say, "look 1.00 0.00 1.00")
        self.refused(TooWide, wide.say, "look 9999999999.99 0.00 1.00")
        self.refused(NoEntry, wide.say, "look 0.00 0.00 1.00")
        self.refused(NoRow, wide.say, "look 1.00 1.00 0.00")
        self.assertEqual(wide.say("look 0.09 0.00 0.00"), "nothing")
        self.assertEqual(Desk([LOW, WIDE]).say("look 1.00 0.00 0.00"), "nothing")

    def test_the_row_made_good_is_taken(self):
        for bad, good, answer in (
            ("loss 5 41 storm roof hail 1.00", "loss 5 42 storm roof hail 1.00", "ok"),
            ("back 6 42 storm 0.00", "back 6 42 storm 0.01", "ok"),
            ("loss 7 42 a.b.c.d roof hail 1.00", "loss 7 42 a.b.c roof hail 1.00", "ok"), ("close 01", "close 45", "5 7 6"),
            ("back 8 45 storm 0.01", "back 8 46 storm 0.01", "ok"),
            ("loss 9  storm roof hail 1.00", "loss 9 46 storm roof hail 1.00", "ok"),
            ("close 46 ", "close 46", "9 8"), ("close 9999999", "close 50", "4"),
        ):
            with self.assertRaises((NoRow, NoEntry, Late)):
                self.desk.say(bad)
            self.assertEqual(self.desk.say(good), answer)


if __name__ == "__main__":
    unittest.main()
