"""[32]: ways and keys. [33]: windows. [34]: room. [35]: what is refused."""

import unittest
from unittest.mock import ANY

from coverroll.clauses import Clause, Layer, Limit, Own
from coverroll.errors import NoClause

WAYS = ("event", "thing", "year", "loss")
MOST = 10**12 - 1
FAR = 10**60 - 1
LOSS = (7, 400, "storm.acme", "roof", "hail", 12345)

NO_WAYS = (
    "", "events", "Event", "even", "event ", "cause", "day", "number", "ev", "t", "loss.year", None, True, False, 0, 1,
    1.5, b"event", [], ["event"], ("event",), {}, {"event": 1}, object(), ("event", "thing", "year", "loss"),
    ANY,
)
NO_AMOUNTS = (-1, -(10**30), 10**12, 10**12 + 1, FAR, True, False, None, "", "5", "0.05", 1.0, 0.5, [], [5], (5,), {}, object())


def clauses_by(by):
    return [Clause(by), Own(by, 5), Layer(by, 3, 9), Limit(by, 7)]


class TestKeys(unittest.TestCase):
    def test_the_key_of_each_way(self):
        for by, key in (("event", "storm.acme"), ("thing", "roof"), ("year", 1), ("loss", 7)):
            for clause in clauses_by(by):
                self.assertEqual(clause.by, by)
                self.assertEqual(clause.key(LOSS), key)

    def test_years(self):
        for day, year in ((0, 0), (364, 0), (365, 1), (729, 1), (730, 2), (10**6, 2739)):
            for clause in clauses_by("year"):
                self.assertEqual(clause.key((7, day, "e", "t", "c", 1)), year)


class TestClasses(unittest.TestCase):
    def test_they_stand_under_clause(self):
        several = [Own("loss", 5), Layer("loss", 3, 9), Limit("loss", 7)]
        for one in several:
            self.assertIsInstance(one, Clause)
            for other in several:
                self.assertEqual(isinstance(one, other.__class__), one is other)

    def test_values(self):
        self.assertEqual(Own("thing", 5).cents, 5)
        self.assertEqual((Layer("thing", 3, 9).first, Layer("thing", 3, 9).upto), (3, 9))
        self.assertEqual(Limit("thing", 7).most, 7)

    def test_words(self):
        self.assertEqual(Own("event", 1250).words(), ["own", "event", "12.50"])
        self.assertEqual(Own("loss", 0).words(), ["own", "loss", "0.00"])
        self.assertEqual(Layer("year", 5, MOST).words(), ["layer", "year", "0.05", "9999999999.99"])
        self.assertEqual(Limit("thing", 100).words(), ["limit", "thing", "1.00"])

    def test_told_words_are_the_askers_own(self):
        for clause in (Own("event", 1), Layer("event", 1, 2), Limit("event", 1)):
            told = clause.words()
            first = list(told)
            told.append("more")
            told[1] = "year"
            self.assertEqual(clause.words(), first)
            self.assertEqual(clause.by, "event")


class TestWindows(unittest.TestCase):
    def test_each_cent_by_its_number(self):
        bounds = (0, 1, 2, 5, 9)
        clauses = [(Own("loss", d), d, 10**6) for d in bounds]
        clauses += [(Layer("loss", a, b), a, b) for a in bounds for b in bounds if a < b]
        clauses += [(Limit("loss", m), 0, 10**6) for m in bounds] + [(Clause("loss"), 0, 10**6)]
        for clause, first, upto in clauses:
            for count in range(12):
                for cents in range(14):
                    x, y = clause.span(count, cents)
                    within = [i for i in range(cents) if first <= count + i < upto]
                    self.assertTrue(0 <= x <= y <= cents)
                    self.assertEqual(list(range(x, y)), within, (first, upto, count, cents))

    def test_own(self):
        for cents in (0, 1, 50, 1000, MOST):
            self.assertEqual(Own("year", 100).span(0, cents), (min(100, cents), cents))
            self.assertEqual(Own("year", 100).span(99, cents), (min(1, cents), cents))
            self.assertEqual(Own("year", 100).span(100, cents), (0, cents))
            self.assertEqual(Own("year", 100).span(101, cents), (0, cents))
            self.assertEqual(Own("year", 100).span(FAR, cents), (0, cents))
            self.assertEqual(Own("year", 0).span(0, cents), (0, cents))
            self.assertEqual(Own("year", MOST).span(0, cents), (cents, cents))

    def test_layer(self):
        layer = Layer("year", 100, 300)
        self.assertEqual(layer.span(0, 1000), (100, 300))
        self.assertEqual(layer.span(0, 300), (100, 300))
        self.assertEqual(layer.span(0, 299), (100, 299))
        self.assertEqual(layer.span(0, 100), (100, 100))
        self.assertEqual(layer.span(0, 99), (99, 99))
        self.assertEqual(layer.span(0, 1), (1, 1))
        self.assertEqual(layer.span(0, 0), (0, 0))
        self.assertEqual(layer.span(99, 1000), (1, 201))
        self.assertEqual(layer.span(100, 1000), (0, 200))
        self.assertEqual(layer.span(101, 1000), (0, 199))
        self.assertEqual(layer.span(299, 1000), (0, 1))
        self.assertEqual(layer.span(300, 1000), (0, 0))
        self.assertEqual(layer.span(301, 1000), (0, 0))
        self.assertEqual(layer.span(FAR, MOST), (0, 0))
        self.assertEqual(Layer("loss", 0, MOST).span(0, MOST), (0, MOST))
        self.assertEqual(Layer("loss", MOST - 1, MOST).span(0, MOST), (MOST - 1, MOST))

    def test_limit_and_a_plain_clause_leave_none_out(self):
        for clause in (Limit("year", 100), Limit("year", 0), Clause("year")):
            for count in (0, 99, 100, 101, FAR):
                for cents in (0, 1, 1000, MOST):
                    self.assertEqual(clause.span(count, cents), (0, cents))

    def test_a_window_is_a_tuple(self):
        for clause in clauses_by("loss"):
            self.assertIsInstance(clause.span(1, 6), tuple)

    def test_the_example_of_two_own_shares(self):
        by_loss, by_year = Own("loss", 100), Own("year", 300)
        told = []
        for counted in (0, 200, 400, 600):
            x = max(by_loss.span(0, 200)[0], by_year.span(counted, 200)[0])
            y = min(by_loss.span(0, 200)[1], by_year.span(counted, 200)[1])
            told.append(list(range(x, y)))
        self.assertEqual(told, [[], list(range(100, 200)), list(range(100, 200)), list(range(100, 200))])
        self.assertEqual(by_year.span(0, 200), (200, 200))
        self.assertEqual(by_year.span(200, 200), (100, 200))


class TestRoom(unittest.TestCase):
    def test_of_a_limit(self):
        for most in (0, 1, 100, MOST):
            for paid in (0, 1, most // 2, most - 1, most, most + 1, 2 * most + 9, FAR):
                if paid >= 0:
                    self.assertEqual(Limit("year", most).room(paid), most - paid if paid < most else 0)

    def test_none_of_the_others(self):
        for clause in (Clause("year"), Own("year", 5), Layer("year", 3, 9), Own("year", 0)):
            for paid in (0, 1, 5, 9, FAR):
                self.assertIsNone(clause.room(paid))


class TestRefused(unittest.TestCase):
    def test_a_way_that_is_none(self):
        for by in NO_WAYS:
            with self.subTest(by=by):
                self.assertRaises(NoClause, Clause, by)
                self.assertRaises(NoClause, Own, by, 5)
                self.assertRaises(NoClause, Layer, by, 3, 9)
                self.assertRaises(NoClause, Limit, by, 7)

    def test_an_amount_that_is_none(self):
        for amount in NO_AMOUNTS:
            for by in WAYS:
                with self.subTest(by=by, amount=amount):
                    self.assertRaises(NoClause, Own, by, amount)
                    self.assertRaises(NoClause, Layer, by, amount, 9)
                    self.assertRaises(NoClause, Layer, by, 0, amount)
                    self.assertRaises(NoClause, Layer, by, amount, amount)
                    self.assertRaises(NoClause, Limit, by, amount)

    def test_a_layer_with_bounds_equal_or_turned_about(self):
        for first, upto in ((0, 0), (5, 5), (1, 0), (9, 3), (MOST, MOST), (MOST, 0), (MOST, MOST - 1)):
            for by in WAYS:
                self.assertRaises(NoClause, Layer, by, first, upto)

    def test_amounts_at_the_bounds_are_taken(self):
        for by in WAYS:
            for amount in (0, 1, MOST):
                self.assertEqual(Own(by, amount).cents, amount)
                self.assertEqual(Limit(by, amount).most, amount)
            for first, upto in ((0, 1), (0, MOST), (MOST - 1, MOST)):
                layer = Layer(by, first, upto)
                self.assertEqual((layer.first, layer.upto), (first, upto))


if __name__ == "__main__":
    unittest.main()
