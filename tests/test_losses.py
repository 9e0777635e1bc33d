"""[2]: names, events, days, amounts. [20]: a loss."""

import unittest

from coverroll.errors import NoEntry
from coverroll.losses import is_amount, is_day, is_event, is_name, loss_of, year_of

NAMES = ("a", "z", "m", "self", "storm", "acmeacme", "abcdefgh", "zzzzzzzz", "and", "always")

NO_TEXTS = (None, True, False, 0, 1, 5, 1.5, b"a", [], ["a"], (), ("a",), {}, {"a": 1}, {"a"}, object(), str)

NO_NAME_TEXTS = (
    "", "abcdefghi", "a" * 9, "a" * 3000, "A", "Storm", "stOrm", "storM", "a1", "1", "9a", "a b", " a", "a ", " ",
    "a.", ".a", "a.b", ".", "a-b", "a_b", "_", "a\n", "\na", "a\t", "\u00e4", "a\u00df", "\u0430", "`", "{", "a`", "{a",
)

EVENTS = (
    "storm", "storm.acme", "a", "a.b", "a.b.c", "a.b.c.d", "abcdefgh.abcdefgh.abcdefgh.abcdefgh", "a.a.a.a", "self.self",
)

NO_EVENT_TEXTS = (
    "", ".", "..", "...", "a.b.c.d.e", "a.a.a.a.a.a", ".a", "a.", ".a.b", "a.b.", "a..b", "a.b..c", "a...b", ".a.",
    "a.b.c.d.", ".a.b.c.d", "abcdefghi", "a.abcdefghi", "abcdefghi.a", "a.b.c.abcdefghi", "A", "a.B", "A.b", "a.b1",
    "a b", "a. b", "a .b", " a", "a ", "a.b ", "a\n", "a.b\n", "a.\n", "a,b", "a.\u00e4", "storm.acme.x.y.z",
)

NO_NUMBERS = (None, True, False, "", "0", "1", "5", "a", [], [1], (), (1,), {}, {1: 1}, 1.0, 0.0, 5.5, b"1", object())

RIGHT = (7, 400, "storm.acme", "roof", "hail", 12345)
PLACES = ("number", "day", "event", "thing", "cause", "cents")

NO_NAMES = NO_NAME_TEXTS + NO_TEXTS
WRONG = (
    NO_NUMBERS + (-1, -(10**20), 10**9 + 1, 10**12, 10**60),
    NO_NUMBERS + (-1, -(10**20), 10**6 + 1, 10**9, 10**60),
    NO_EVENT_TEXTS + NO_TEXTS,
    NO_NAMES,
    NO_NAMES,
    NO_NUMBERS + (0, -1, -(10**20), 10**12, 10**12 + 1, 10**60),
)
EDGES = (
    (0, 1, 10**9 - 1, 10**9),
    (0, 1, 364, 365, 10**6 - 1, 10**6),
    EVENTS,
    NAMES,
    NAMES,
    (1, 2, 99, 100, 10**12 - 2, 10**12 - 1),
)


def with_one(place, thing):
    return RIGHT[:place] + (thing,) + RIGHT[place + 1:]


class TestKinds(unittest.TestCase):
    def tells(self, question, things, answer):
        for thing in things:
            with self.subTest(thing=thing):
                self.assertIs(question(thing), answer)

    def test_names(self):
        self.tells(is_name, NAMES, True)
        self.tells(is_name, NO_NAME_TEXTS, False)
        self.tells(is_name, NO_TEXTS, False)

    def test_just_the_small_letters(self):
        for code in range(0, 400):
            right = ord("a") <= code <= ord("z")
            self.assertIs(is_name(chr(code)), right, code)
            self.assertIs(is_name("a" + chr(code) + "z"), right, code)
            self.assertIs(is_event("ab." + chr(code)), right, code)

    def test_lengths_of_names(self):
        for length in range(0, 20):
            self.assertIs(is_name("q" * length), 1 <= length <= 8)
            self.assertIs(is_event("storm." + "q" * length), 1 <= length <= 8)

    def test_events(self):
        self.tells(is_event, EVENTS, True)
        self.tells(is_event, NO_EVENT_TEXTS, False)
        self.tells(is_event, NO_TEXTS, False)

    def test_how_many_names(self):
        for names in range(1, 10):
            self.assertIs(is_event(".".join(["ab"] * names)), names <= 4)

    def test_days(self):
        self.tells(is_day, (0, 1, 364, 365, 10**6 - 1, 10**6), True)
        self.tells(is_day, (-1, -2, -(10**30), 10**6 + 1, 10**9, 10**60), False)
        self.tells(is_day, NO_NUMBERS, False)

    def test_amounts(self):
        self.tells(is_amount, (0, 1, 99, 100, 10**12 - 2, 10**12 - 1), True)
        self.tells(is_amount, (-1, -2, -(10**30), 10**12, 10**12 + 1, 10**60), False)
        self.tells(is_amount, NO_NUMBERS, False)
        self.tells(is_amount, ("1.00", "0.00"), False)

    def test_years(self):
        for day, year in ((0, 0), (1, 0), (364, 0), (365, 1), (729, 1), (730, 2), (3649, 9), (3650, 10), (10**6, 2739)):
            with self.subTest(day=day):
                self.assertEqual(year_of(day), year)


class TestLoss(unittest.TestCase):
    def test_the_tuple_of_the_six(self):
        loss = loss_of(*RIGHT)
        self.assertIsInstance(loss, tuple)
        self.assertEqual(loss, (7, 400, "storm.acme", "roof", "hail", 12345))

    def test_by_the_names_of_its_arguments(self):
        loss = loss_of(cents=1, cause="c", thing="t", event="e", day=2, number=3)
        self.assertEqual(loss, (3, 2, "e", "t", "c", 1))

    def test_at_the_bounds(self):
        for place, things in enumerate(EDGES):
            for thing in things:
                with self.subTest(place=PLACES[place], thing=thing):
                    self.assertEqual(loss_of(*with_one(place, thing)), with_one(place, thing))

    def test_each_of_the_six_is_refused(self):
        for place, things in enumerate(WRONG):
            for thing in things:
                with self.subTest(place=PLACES[place], thing=thing):
                    self.assertRaises(NoEntry, loss_of, *with_one(place, thing))

    def test_an_event_is_no_thing_and_no_cause(self):
        self.assertRaises(NoEntry, loss_of, *with_one(3, "storm.acme"))
        self.assertRaises(NoEntry, loss_of, *with_one(4, "storm.acme"))

    def test_all_wrong_at_once(self):
        self.assertRaises(NoEntry, loss_of, None, None, None, None, None, None)
        self.assertRaises(NoEntry, loss_of, -1, -1, "", "", "", 0)


if __name__ == "__main__":
    unittest.main()
