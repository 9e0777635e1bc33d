"""[90]: books told by rows. [91]: what tells no book. [92]: books shown."""

import random
import unittest

from coverroll.books import Book
from coverroll.clauses import Layer, Limit, Own
from coverroll.conditions import Condition, Not
from coverroll.counts import Counts
from coverroll.covers import Cover
from coverroll.errors import NoText
from coverroll.settling import settle
from coverroll.texts import read_book, show_book
from tests.making import WAYS, some_covers, some_loss

LOW = ["cover low", "when cause hail and not thing barn", "own event 1.00", "limit year 5.00", "share acme 2 beta 1", "waits"]
CONDITIONS = ("always", "cause hail", "thing roof", "days 0 364", "over 12.50", "not always", "cause a or cause b and thing c",
              "not ( cause a or not cause b ) and always")


def told(book):
    """All that a book's covers keep, by their own words."""
    return [
        (c.name, " ".join(c.condition.words()), [clause.words() for clause in c.clauses], c.houses, c.deal.weights, c.waits)
        for c in book.covers
    ]


def some_text(chooser, name):
    """The rows of a cover behind its first one, in any order."""
    a, b = sorted(chooser.sample(range(300), 2))
    clauses = [
        f"own {chooser.choice(WAYS)} {a // 100}.{a % 100:02}", f"limit {chooser.choice(WAYS)} {b // 100}.{b % 100:02}",
        f"layer {chooser.choice(WAYS)} {a // 100}.{a % 100:02} {b // 100}.{b % 100:02}",
    ]
    rows = [chooser.choice(clauses) for k in range(chooser.randint(0, 4))]
    if chooser.random() < 0.6:
        rows.append("when " + chooser.choice(CONDITIONS))
    if chooser.random() < 0.6:
        rows.append(chooser.choice((f"share {name} 1", f"share {name} 2", "share acme 1", "share acme 40 self 60",
            "share b 1 a 2 c 3")))
    if chooser.random() < 0.4:
        rows.append("waits")
    return [f"cover {name}"] + chooser.sample(rows, len(rows))


def some_texts(seed, many):
    chooser = random.Random(seed)
    for turn in range(many):
        names = chooser.sample(("low", "high", "a", "cover", "when", "waits", "share", "abcdefgh", "own"), turn % 9)
        yield chooser, [row for name in names for row in some_text(chooser, name)]


class TestRead(unittest.TestCase):
    def test_no_rows(self):
        book = read_book([])
        self.assertIsInstance(book, Book)
        self.assertEqual(book.covers, [])

    def test_a_cover_with_all(self):
        book = read_book(LOW)
        self.assertEqual(told(book), [(
            "low", "cause hail and not thing barn", [["own", "event", "1.00"], ["limit", "year", "5.00"]],
            ["acme", "beta"], [2, 1], True,
        )])
        self.assertIsInstance(book.covers[0], Cover)
        self.assertIsInstance(book.covers[0].clauses[0], Own)
        self.assertIsInstance(book.covers[0].clauses[1], Limit)

    def test_a_cover_with_nothing(self):
        self.assertEqual(told(read_book(["cover low"])), [("low", "always", [], ["low"], [1], False)])
        self.assertIs(read_book(["cover low"]).covers[0].waits, False)

    def test_rows_in_several_orders(self):
        chooser = random.Random(90)
        for turn in range(60):
            rows = LOW[:1] + chooser.sample(LOW[1:], 5)
            wanted = told(read_book(LOW))
            if rows.index("own event 1.00") > rows.index("limit year 5.00"):
                wanted = [wanted[0][:2] + (wanted[0][2][::-1],) + wanted[0][3:]]
            self.assertEqual(told(read_book(rows)), wanted)

    def test_when_always_told_and_left_out(self):
        self.assertEqual(told(read_book(["cover low", "when always"])), told(read_book(["cover low"])))
        self.assertEqual(told(read_book(["cover low", "when ( always )"])), told(read_book(["cover low"])))
        self.assertEqual(told(read_book(["cover low", "share low 1"])), told(read_book(["cover low"])))

    def test_clauses_of_all_ways_and_sorts(self):
        rows = ["cover low"]
        for by in WAYS[:2]:
            rows += [f"own {by} 0.00", f"layer {by} 0.00 9999999999.99", f"limit {by} 9999999999.99"]
        rows += ["own year 0.01", "limit loss 0.00"]
        clauses = read_book(rows).covers[0].clauses
        self.assertEqual([" ".join(clause.words()) for clause in clauses], rows[1:])
        self.assertIsInstance(clauses[1], Layer)
        self.assertEqual((clauses[1].first, clauses[1].upto, clauses[6].cents), (0, 10**12 - 1, 1))

    def test_none_to_eight_covers_each_with_rows_of_its_own(self):
        for many in range(9):
            rows = []
            for k in range(many):
                rows += [f"cover {'abcdefgh'[k]}", f"own loss 0.0{k}", "when thing roof"][:1 + k % 3] + ["waits"] * (k % 2)
            book = read_book(rows)
            self.assertEqual([c.name for c in book.covers], list("abcdefgh"[:many]))
            self.assertEqual([len(c.clauses) for c in book.covers], [int(k % 3 > 0) for k in range(many)])
            self.assertEqual([c.condition.words()[0] for c in book.covers],
                [("always", "thing")[k % 3 == 2] for k in range(many)])
            self.assertEqual([c.waits for c in book.covers], [k % 2 == 1 for k in range(many)])
        self.assertEqual([c.name for c in read_book(["cover b", "waits", "cover a"]).asking], ["a", "b"])

    def test_eight_clauses_and_eight_houses(self):
        rows = ["cover low"] + ["own loss 0.01"] * 8 + ["share " + " ".join(f"{house} 1" for house in "abcdefgh")]
        self.assertEqual(len(read_book(rows).covers[0].clauses), 8)
        self.assertEqual(read_book(rows).covers[0].houses, list("abcdefgh"))
        self.assertEqual(read_book(["cover low", "share a 100"]).covers[0].deal.weights, [100])
        self.assertEqual(read_book(["cover low", "share a 99 self 1"]).covers[0].houses, ["a", "self"])

    def test_words_of_the_language_are_names_too(self):
        book = read_book(["cover cover", "cover waits", "waits", "share when 1 own 2", "when cause when and thing and"])
        self.assertEqual([c.name for c in book.covers], ["cover", "waits"])
        self.assertEqual(book.covers[1].houses, ["when", "own"])

    def test_a_condition_of_sixty_words_and_of_one_more(self):
        full = " and ".join(["always"] * 8)
        for last, many in (("always and " * 5 + "not always", 60), ("always and " * 6 + "always", 61)):
            text = " or ".join([full, full, full, last])
            self.assertEqual(len(text.split(" ")), many)
            self.assertEqual(refused_at(["cover a", "when " + text]), None if many == 60 else 1)

    def test_the_rows_stay_and_may_be_changed_later(self):
        for chooser, rows in some_texts(93, 20):
            copy = list(rows)
            book = read_book(rows)
            self.assertEqual(rows, copy)
            ahead = told(book)
            rows.clear()
            self.assertEqual(told(book), ahead)


def refused_at(rows):
    """`at` of the refusal, None where there is none."""
    try:
        read_book(rows)
    except NoText as refusal:
        return refusal.at
    return None


class TestRefused(unittest.TestCase):
    BAD = (
        "", " ", "low", "Cover low", "cover", "cover ", "cover low ", " cover x", "cover  x", "cover x y", "cover Low",
        "cover abcdefghi", "cover x1",
        "cover self", "cover a.b", "cover\tx", "cover x\n", "covers x", None, 5, True, ["cover x"], ("cover x",), b"cover x",
        "when", "when ", "when  always", " when always", "when always ", "when cause", "when cause Hail",
        "when cause hail and", "when sometimes",
        "when cause hail  and always", "when ( always", "when always )", "when days 5 4", "when over 12",
        "when " + "not " * 7 + "always",
        "when " + "( " * 7 + "always" + " )" * 7, "when always\n", "when\talways", "always", "cause hail", "When always",
        "when " + " and ".join(["always"] * 9), "when " + " or ".join(["not always"] * 21),
        "own", "own event", "own event 1", "own event 1.0", "own event 1.00 ", " own event 1.00", "own  event 1.00",
        "own event  1.00",
        "own event 1.00 2.00", "own day 1.00", "own Event 1.00", "own event 01.00", "own event -1.00",
        "own event 10000000000.00", "own 1.00 event",
        "own event 1,00", "own event\t1.00", "own event 1.00\n", "own  1.00",
        "layer", "layer event", "layer event 1.00", "layer event 1.00 1.00", "layer event 2.00 1.00",
        "layer event 1.00 2.00 3.00", "layer event 1.00  2.00",
        "layer event 1.00 2", "layer event 1 2.00", "layer loss 0.00 10000000000.00", "layer self 1.00 2.00",
        "layer event 1.00 2.00 ", "layer  1.00 2.00",
        "limit", "limit year", "limit year 5", "limit year 5.00 6.00", "limit years 5.00", "limit year 5.00 ",
        "limit  year 5.00", "limits year 5.00",
        "share", "share ", "share a", "share a ", "share a 1 b", "share a 1 b ", "share a  1", " share a 1",
        "share a 1 ", "share A 1", "share a 0", "share a 01",
        "share a 001", "share a 00", "share a -1", "share a +1", "share a 1.00", "share a 1000", "share a 101",
        "share a 100 b 1", "share a 50 b 51",
        "share a 1 a 1", "share a 1 b 2 a 3", "share abcdefghi 1", "share 1 a", "share a x", "share  1",
        "share a 1 b 0", "share a\t1", "share a 1\n",
        "share " + " ".join(f"{house} 1" for house in "abcdefghi"), "shares a 1",
        "share " + " ".join(f"{house} 13" for house in "abcdefgh"),
        "waits ", " waits", "waits now", "wait", "Waits", "waits\n", "waits\t", "waits waits", "waits 1",
    )

    def test_each_bad_row_at_several_places(self):
        ahead = ["cover a", "own loss 0.01", "cover b", "when always", "cover c"]
        for bad in self.BAD:
            for place in range(1, 6):
                rows = ahead[:place] + [bad] + ahead[place:]
                if ahead[place - 1] == "when always" and isinstance(bad, str) and bad.startswith("when"):
                    continue
                self.assertEqual(refused_at(rows), place, (bad, place))
            self.assertEqual(refused_at([bad]), 0, bad)
            self.assertEqual(refused_at([bad] + ahead), 0, bad)

    def test_a_second_bad_row_changes_nothing(self):
        for bad in self.BAD[::7]:
            for other in self.BAD[::5]:
                self.assertEqual(refused_at(["cover a", bad, "cover b", other]), 1)
                self.assertEqual(refused_at(["cover a", "waits", "cover b", bad, other]), 3)

    def test_what_is_no_list(self):
        for thing in (None, 5, True, "cover low", ("cover low",), {"cover low": True}, {0: "cover low"}, (), "", b"cover low"):
            self.assertEqual(refused_at(thing), 0)

    def test_a_row_ahead_of_any_cover(self):
        for row in LOW[1:] + ["layer loss 0.00 1.00"]:
            self.assertEqual(refused_at([row]), 0)
            self.assertEqual(refused_at([row, "cover low"]), 0)
            self.assertIsNone(refused_at(["cover low", row]))

    def test_a_second_when_share_or_waits(self):
        for row in ("when always", "when cause hail", "share low 1", "share a 1 b 2", "waits"):
            for between in ([], ["own loss 0.01"], ["own loss 0.01", "limit loss 0.01"]):
                self.assertEqual(refused_at(["cover low", row] + between + [row]), 2 + len(between))
            self.assertIsNone(refused_at(["cover low", row, "cover high", row]))
        self.assertEqual(refused_at(["cover low", "when always", "when cause hail"]), 2)
        self.assertEqual(refused_at(["cover low", "share low 1", "share a 1"]), 2)

    def test_the_ninth_cover_and_the_eighth(self):
        rows = [f"cover {name}" for name in "abcdefghi"]
        self.assertIsNone(refused_at(rows[:8]))
        self.assertEqual(refused_at(rows), 8)
        self.assertEqual(refused_at(rows[:8] + ["waits", "cover x"]), 9)

    def test_the_ninth_clause_and_the_eighth(self):
        for kinds in (["own loss 0.01"] * 9, ["own loss 0.01", "layer loss 0.01 0.02", "limit year 0.05"] * 3):
            self.assertIsNone(refused_at(["cover a"] + kinds[:8]))
            self.assertEqual(refused_at(["cover a"] + kinds), 9)
            self.assertEqual(refused_at(["cover a"] + kinds[:8] + ["waits", "when always", kinds[8]]), 11)
            self.assertIsNone(refused_at(["cover a"] + kinds[:8] + ["cover b"] + kinds[:8]))
            self.assertEqual(refused_at(["cover a"] + kinds[:8] + ["cover b"] + kinds), 18)

    def test_a_name_told_ahead(self):
        self.assertEqual(refused_at(["cover a", "cover a"]), 1)
        self.assertEqual(refused_at(["cover a", "waits", "cover b", "own loss 0.01", "cover a"]), 4)
        self.assertIsNone(refused_at(["cover a", "cover aa"]))

    def test_the_refusal_is_no_text(self):
        with self.assertRaises(NoText) as caught:
            read_book(["cover a", "own"])
        self.assertIs(caught.exception.__class__, NoText)

    def test_the_rows_stay(self):
        rows = ["cover a", "own loss 0.01", "own"]
        refused_at(rows)
        self.assertEqual(rows, ["cover a", "own loss 0.01", "own"])


class TestShown(unittest.TestCase):
    def test_by_hand(self):
        rows = LOW + ["cover high", "layer event 3.00 9.00"]
        self.assertEqual(show_book(read_book(rows)), rows)
        self.assertEqual(show_book(read_book([])), [])

    def test_the_order_within_a_cover(self):
        rows = ["cover low", "waits", "share acme 2 beta 1", "limit year 5.00", "own event 1.00", "when cause hail"]
        self.assertEqual(show_book(read_book(rows)), [
            "cover low", "when cause hail", "limit year 5.00", "own event 1.00", "share acme 2 beta 1", "waits",
        ])

    def test_what_is_left_out(self):
        self.assertEqual(show_book(read_book(["cover low", "share low 1", "when always"])), ["cover low"])
        for row in ("share low 2", "share acme 1", "share low 1 acme 1", "share self 1", "when not always",
            "when always and always", "waits"):
            self.assertEqual(show_book(read_book(["cover low", row])), ["cover low", row])

    def test_of_a_book_that_was_not_read(self):
        covers = [Cover("low", Not(Condition()), [Own("loss", 5), Layer("thing", 0, 10**12 - 1)], [("low", 1)], True),
            Cover("high", Condition())]
        self.assertEqual(show_book(Book(covers)),
            ["cover low", "when not always", "own loss 0.05", "layer thing 0.00 9999999999.99", "waits", "cover high"])

    def test_what_is_shown_is_read_to_a_book_that_is_shown_alike(self):
        for chooser, rows in some_texts(92, 150):
            book = read_book(rows)
            shown = show_book(book)
            self.assertEqual(show_book(read_book(shown)), shown)
            self.assertEqual(told(read_book(shown)), told(book))

    def test_and_that_has_the_same_strips(self):
        chooser = random.Random(94)
        for turn in range(100):
            book = Book(some_covers(chooser, turn % 5))
            shown = show_book(book)
            other = read_book(shown)
            self.assertEqual(show_book(other), shown)
            counts, others = Counts(), Counts()
            for number in range(10):
                one = some_loss(chooser, number, (0, 400, 800))
                self.assertEqual(settle(book, counts, one), settle(other, others, one))

    def test_told_lists_are_the_askers_own(self):
        book = read_book(LOW)
        show_book(book).clear()
        self.assertEqual(show_book(book), LOW)


if __name__ == "__main__":
    unittest.main()
