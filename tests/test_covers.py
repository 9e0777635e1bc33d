"""[36]: a cover and its refusals. [37]: window, parts and rest. [38]: a loss in pieces. [3]: what stays."""

import itertools
import random
import unittest

from coverroll.clauses import Layer, Limit, Own
from coverroll.conditions import CauseIs, Condition, DaysIn, Not
from coverroll.covers import Cover
from coverroll.errors import NoCover, NoShares
from coverroll.turns import Deal

MOST = 10**12 - 1
FAR = 10**60 - 1
OWN = Own("loss", 5)
NO_NAMES = ("", "A", "a1", "a b", "abcdefghi", "a.b", " a", "a\n", None, True, 5, 1.5, b"a", ["a"], ("a",), {}, object())

WRONG_WEIGHTS = (0, -1, True, False, None, "1", 1.0, 101, [1])


def cover(clauses, **more):
    return Cover("low", Condition(), clauses, **more)


def in_window(clause, count, cent):
    """[33] for one cent."""
    if isinstance(clause, Own):
        return count + cent >= clause.cents
    if isinstance(clause, Layer):
        return clause.first <= count + cent < clause.upto
    return True


def parts_by_cents(clauses, counts, cents):
    told = []
    for cent in range(cents):
        k = next((k for k, clause in enumerate(clauses) if not in_window(clause, counts[k], cent)), -1)
        if told and told[-1][2] == k:
            told[-1] = (told[-1][0], cent + 1, k)
        else:
            told.append((cent, cent + 1, k))
    return told


def joined(parts):
    told = []
    for lo, hi, k in parts:
        if told and told[-1][2] == k:
            told[-1] = (told[-1][0], hi, k)
        else:
            told.append((lo, hi, k))
    return told


def some_covers():
    """Clauses, counts and cents, of many sorts, small enough to ask cent by cent."""
    chooser = random.Random(11)
    for turn in range(1500):
        clauses = []
        for k in range(chooser.randint(0, 8 if turn % 4 == 0 else 3)):
            a, b = sorted(chooser.sample(range(25), 2))
            clauses.append(chooser.choice((Own("loss", a), Layer("loss", a, b), Layer("loss", a // 4, b), Limit("loss", b))))
        yield clauses, [chooser.choice((0, 0, chooser.randint(0, 25))) for clause in clauses], chooser.randint(0, 30)


class TestRefused(unittest.TestCase):
    def test_a_name_that_is_none(self):
        for name in NO_NAMES + ("self",):
            with self.subTest(name=name):
                self.assertRaises(NoCover, Cover, name, Condition())
                self.assertRaises(NoCover, Cover, name, Condition(), [OWN], [("acme", 1)])

    def test_nine_clauses(self):
        for many in (9, 10, 50):
            self.assertRaises(NoCover, cover, [OWN] * many)
        for many in range(9):
            self.assertEqual(len(cover([OWN] * many).clauses), many)

    def test_a_house_that_is_no_name_or_comes_twice(self):
        for house in NO_NAMES:
            with self.subTest(house=house):
                self.assertRaises(NoCover, cover, [], houses=[(house, 1)])
                self.assertRaises(NoCover, cover, [], houses=[("a", 1), (house, 1)])
                self.assertRaises(NoCover, cover, [], houses=[(house, 1), ("a", 1), ("b", 1)])
        for houses in ("aa", "aba", "abb", "aab", "abcdefgg", "abcdefga", "abcdefghb"):
            self.assertRaises(NoCover, cover, [], houses=[(house, 1) for house in houses])
        self.assertRaises(NoCover, cover, [], houses=[("acme", 1), ("acme", 2)])
        self.assertRaises(NoCover, cover, [], houses=[("self", 1), ("self", 1)])

    def test_weights(self):
        for weight in WRONG_WEIGHTS:
            with self.subTest(weight=weight):
                self.assertRaises(NoShares, cover, [], houses=[("acme", weight)])
                self.assertRaises(NoShares, cover, [], houses=[("acme", 1), ("beta", weight)])
                self.assertRaises(NoShares, cover, [], houses=[("acme", weight), ("beta", 1)])
        self.assertRaises(NoShares, cover, [], houses=[("acme", 50), ("beta", 51)])

    def test_no_houses_and_nine(self):
        self.assertRaises(NoShares, cover, [], houses=[])
        self.assertRaises(NoShares, cover, [], houses=[(house, 1) for house in "abcdefghi"])
        self.assertEqual(cover([], houses=[(house, 1) for house in "abcdefgh"]).houses, list("abcdefgh"))

    def test_where_two_faults_meet_the_first_one_goes_ahead(self):
        wrong_houses = ([("A", 1)], [("a", 1), ("a", 1)])
        wrong_weights = ([], [("a", 0)], [(house, 1) for house in "abcdefghi"])
        for name in ("", "self", None):
            self.assertRaises(NoCover, Cover, name, Condition(), [], [])
            self.assertRaises(NoCover, Cover, name, Condition(), [OWN] * 9, [("a", 0)])
        for houses in wrong_houses + wrong_weights:
            self.assertRaises(NoCover, cover, [OWN] * 9, houses=houses)
            self.assertRaises(NoCover, Cover, "A", Condition(), [], houses)
        self.assertRaises(NoCover, cover, [], houses=[("A", 0)])
        self.assertRaises(NoCover, cover, [], houses=[("a", 0), ("a", 0)])
        self.assertRaises(NoCover, cover, [], houses=[("a", 0), ("b", 1), ("A", 1)])
        self.assertRaises(NoCover, cover, [], houses=[(house, 1) for house in "abcdefghia"])
        self.assertRaises(NoCover, cover, [], houses=[(house, 1) for house in "abcdefghI"])


class TestValues(unittest.TestCase):
    def test_what_is_handed_in(self):
        condition = CauseIs("hail")
        clauses = [OWN, Limit("year", 9)]
        one = Cover("high", condition, clauses, [("acme", 2), ("self", 1), ("beta", 3)], True)
        self.assertEqual(one.name, "high")
        self.assertIs(one.condition, condition)
        self.assertEqual(one.clauses, clauses)
        self.assertEqual(one.houses, ["acme", "self", "beta"])
        self.assertIsInstance(one.deal, Deal)
        self.assertEqual(one.deal.weights, [2, 1, 3])
        self.assertEqual(one.deal.wheel, Deal([2, 1, 3]).wheel)
        self.assertIs(one.waits, True)

    def test_what_is_left_out(self):
        one = Cover("high", Condition())
        self.assertEqual(one.clauses, [])
        self.assertEqual(one.houses, ["high"])
        self.assertEqual(one.deal.weights, [1])
        self.assertIs(one.waits, False)
        other = Cover("high", Condition(), None, None, False)
        self.assertEqual((other.clauses, other.houses, other.deal.weights, other.waits), ([], ["high"], [1], False))

    def test_by_the_names_of_its_arguments(self):
        one = Cover(name="high", condition=Condition(), clauses=[OWN], houses=[("self", 7)], waits=True)
        self.assertEqual((one.name, one.clauses, one.houses, one.deal.weights, one.waits), ("high", [OWN], ["self"], [7], True))

    def test_a_house_called_self_or_like_the_cover(self):
        self.assertEqual(cover([], houses=[("self", 1)]).houses, ["self"])
        self.assertEqual(cover([], houses=[("low", 1), ("self", 99)]).houses, ["low", "self"])

    def test_asks(self):
        hail = (7, 400, "storm", "roof", "hail", 5)
        fire = (7, 400, "storm", "roof", "fire", 5)
        for condition, answers in (
            (Condition(), (True, True)), (CauseIs("hail"), (True, False)), (Not(CauseIs("hail")), (False, True)),
            (DaysIn(0, 399), (False, False)),
        ):
            one = Cover("low", condition)
            self.assertIs(one.asks(hail), answers[0])
            self.assertIs(one.asks(fire), answers[1])


class TestWindow(unittest.TestCase):
    def test_without_clauses(self):
        for cents in (1, 7, MOST):
            self.assertEqual(cover(None).window([], cents), (0, cents))
            self.assertEqual(cover(None).parts([], cents), [(0, cents, -1)])
        self.assertIsNone(cover(None).rest([]))

    def test_of_no_cents(self):
        clauses = [Own("loss", 5), Own("loss", 0), Layer("loss", 0, 3), Layer("loss", 3, 9), Limit("loss", 0), Limit("loss", 7)]
        for many in range(len(clauses) + 1):
            for several in itertools.combinations(clauses, many):
                for count in (0, 4, 100):
                    one = cover(list(several))
                    self.assertEqual(one.window([count] * many, 0), (0, 0))
                    self.assertEqual(one.parts([count] * many, 0), [])

    def test_by_cents(self):
        for clauses, counts, cents in some_covers():
            one = cover(clauses)
            x, y = one.window(counts, cents)
            within = [i for i in range(cents) if all(in_window(c, counts[k], i) for k, c in enumerate(clauses))]
            self.assertEqual(list(range(x, y)), within)
            self.assertTrue(0 <= x <= y <= cents)
            self.assertEqual(one.parts(counts, cents), parts_by_cents(clauses, counts, cents))

    def test_the_greatest_x_and_the_least_y(self):
        one = cover([Own("loss", 10), Layer("loss", 20, 90), Own("loss", 15), Layer("loss", 5, 80)])
        self.assertEqual(one.window([0] * 4, 100), (20, 80))
        self.assertEqual(one.window([0, 15, 0, 0], 100), (15, 75))
        self.assertEqual(one.window([0] * 4, 50), (20, 50))
        self.assertEqual(one.window([0] * 4, 20), (20, 20))
        self.assertEqual(one.window([0] * 4, 12), (12, 12))

    def test_windows_that_do_not_meet(self):
        one = cover([Layer("loss", 0, 10), Layer("year", 30, 40)])
        self.assertEqual(one.window([0, 0], 100), (30, 30))
        self.assertEqual(one.parts([0, 0], 100), [(0, 10, 1), (10, 100, 0)])
        other = cover([Layer("year", 30, 40), Layer("loss", 0, 10)])
        self.assertEqual(other.window([0, 0], 100), (30, 30))
        self.assertEqual(other.parts([0, 0], 100), [(0, 30, 0), (30, 40, 1), (40, 100, 0)])
        touching = cover([Layer("loss", 0, 10), Own("loss", 10)])
        self.assertEqual(touching.window([0, 0], 100), (10, 10))
        self.assertEqual(touching.parts([0, 0], 100), [(0, 10, 1), (10, 100, 0)])

    def test_kinds(self):
        one = cover([Own("loss", 3), Limit("loss", 5)])
        self.assertIsInstance(one.window([0, 0], 9), tuple)
        self.assertIsInstance(one.parts([0, 0], 9), list)
        self.assertTrue(all(isinstance(part, tuple) for part in one.parts([0, 0], 9)))
        self.assertIsInstance(one.rest([0, 0]), tuple)

    def test_great_numbers(self):
        one = cover([Own("year", MOST), Layer("event", 5, MOST), Limit("year", MOST)])
        self.assertEqual(one.parts([FAR, 0, 0], MOST), [(0, 5, 1), (5, MOST, -1)])
        self.assertEqual(one.parts([FAR, FAR, FAR], MOST), [(0, MOST, 1)])
        self.assertEqual(one.window([FAR, 3, FAR], MOST), (2, MOST - 3))


class TestParts(unittest.TestCase):
    def test_by_hand(self):
        one = cover([Own("loss", 10), Layer("year", 5, 50)])
        self.assertEqual(one.parts([0, 0], 100), [(0, 10, 0), (10, 50, -1), (50, 100, 1)])
        self.assertEqual(one.parts([0, 0], 10), [(0, 10, 0)])
        self.assertEqual(one.parts([0, 0], 11), [(0, 10, 0), (10, 11, -1)])
        self.assertEqual(one.parts([0, 45], 100), [(0, 10, 0), (10, 100, 1)])
        turned = cover([Layer("year", 5, 50), Own("loss", 10)])
        self.assertEqual(turned.parts([0, 0], 100), [(0, 5, 0), (5, 10, 1), (10, 50, -1), (50, 100, 0)])

    def test_two_alike_are_told_by_the_first(self):
        one = cover([Limit("loss", 0), Own("loss", 10), Own("loss", 10), Limit("loss", 1)])
        self.assertEqual(one.parts([0] * 4, 30), [(0, 10, 1), (10, 30, -1)])

    def test_eight_clauses(self):
        owns = [Own("loss", 8 * k) for k in range(8)]
        self.assertEqual(cover(owns).parts([0] * 8, 100), [(8 * k, 8 * k + 8, k + 1) for k in range(7)] + [(56, 100, -1)])
        self.assertEqual(cover(owns[::-1]).parts([0] * 8, 100), [(0, 56, 0), (56, 100, -1)])

    def test_end_to_end_and_neighbours_unlike(self):
        for clauses, counts, cents in some_covers():
            parts = cover(clauses).parts(counts, cents)
            self.assertEqual([lo for lo, hi, k in parts] + [cents], [0] + [hi for lo, hi, k in parts])
            self.assertTrue(all(lo < hi for lo, hi, k in parts))
            self.assertTrue(all(one[2] != other[2] for one, other in zip(parts, parts[1:])))

    def test_those_of_a_lesser_loss_are_the_beginning(self):
        for clauses, counts, cents in some_covers():
            one = cover(clauses)
            whole = one.parts(counts, cents)
            for lesser in range(cents):
                cut = [(lo, min(hi, lesser), k) for lo, hi, k in whole if lo < lesser]
                self.assertEqual(one.parts(counts, lesser), cut)


class TestRest(unittest.TestCase):
    def test_none_without_limits(self):
        for clauses in ([], [OWN], [OWN, Layer("year", 1, 2)], [OWN] * 8):
            self.assertIsNone(cover(clauses).rest([3] * len(clauses)))

    def test_the_least_room_and_the_first_of_equals(self):
        one = cover([Own("loss", 1), Limit("year", 50), Layer("loss", 1, 2), Limit("event", 30), Limit("loss", 30)])
        self.assertEqual(one.rest([0, 0, 0, 0, 0]), (30, 3))
        self.assertEqual(one.rest([0, 0, 0, 0, 1]), (29, 4))
        self.assertEqual(one.rest([0, 20, 0, 0, 0]), (30, 1))
        self.assertEqual(one.rest([0, 21, 0, 0, 0]), (29, 1))
        self.assertEqual(one.rest([0, 0, 0, 30, 30]), (0, 3))
        self.assertEqual(one.rest([0, 0, 0, 29, 30]), (0, 4))
        self.assertEqual(one.rest([0, 99, 0, 31, 30]), (0, 1))
        self.assertEqual(one.rest([99, 0, 99, 0, 0]), (30, 3))

    def test_by_sums(self):
        for clauses, counts, cents in some_covers():
            rooms = [(max(0, c.most - counts[k]), k) for k, c in enumerate(clauses) if isinstance(c, Limit)]
            self.assertEqual(cover(clauses).rest(counts), min(rooms) if rooms else None)

    def test_a_limit_of_nought_and_one_at_each_place(self):
        for place in range(8):
            clauses = [Limit("loss", 0) if k == place else OWN for k in range(8)]
            self.assertEqual(cover(clauses).rest([0] * 8), (0, place))
            self.assertEqual(cover([Limit("loss", 9 if k == place else 10) for k in range(8)]).rest([0] * 8), (9, place))


class TestPieces(unittest.TestCase):
    def pays(self, one, counts, cents):
        x, y = one.window(counts, cents)
        rest = one.rest(counts)
        return [] if x == y else list(range(x, y if rest is None else min(y, x + rest[0])))

    def told_in_pieces(self, one, counts, pieces):
        counts = list(counts)
        base, parts, paid = 0, [], []
        for cents in pieces:
            parts += [(base + lo, base + hi, k) for lo, hi, k in one.parts(counts, cents)]
            now = self.pays(one, counts, cents)
            paid += [base + cent for cent in now]
            for k, clause in enumerate(one.clauses):
                counts[k] += len(now) if isinstance(clause, Limit) else cents
            base += cents
        return (joined(parts), paid)

    def test_two_and_three_pieces_against_the_whole(self):
        for clauses, counts, cents in itertools.islice(some_covers(), 400):
            one = cover(clauses)
            whole = (one.parts(counts, cents), self.pays(one, counts, cents))
            for first in range(cents + 1):
                self.assertEqual(self.told_in_pieces(one, counts, [first, cents - first]), whole)
                for second in range(0, cents - first + 1, 3):
                    self.assertEqual(self.told_in_pieces(one, counts, [first, second, cents - first - second]), whole)

    def test_by_hand(self):
        one = cover([Own("loss", 10), Layer("year", 5, 50), Limit("year", 25)])
        whole = ([(0, 10, 0), (10, 50, -1), (50, 100, 1)], list(range(10, 35)))
        self.assertEqual(self.told_in_pieces(one, [0, 0, 0], [100]), whole)
        self.assertEqual(self.told_in_pieces(one, [0, 0, 0], [7, 93]), whole)
        self.assertEqual(self.told_in_pieces(one, [0, 0, 0], [20, 20, 60]), whole)


class TestWhatStays(unittest.TestCase):
    COUNTS = [0, 2, 1, 0]

    def made(self):
        clauses = [Own("loss", 5), Layer("year", 3, 20), Limit("year", 9), Limit("loss", 8)]
        houses = [("acme", 2), ("self", 1)]
        return clauses, houses, Cover("low", Condition(), clauses, houses)

    def answers(self, one):
        told = [(one.window(self.COUNTS, cents), one.parts(self.COUNTS, cents)) for cents in range(30)]
        return (told, one.rest(self.COUNTS), list(one.houses), [one.deal.who(n) for n in range(9)])

    def test_what_is_handed_in_stays(self):
        clauses, houses, one = self.made()
        first = list(clauses)
        self.answers(one)
        self.assertEqual(clauses, first)
        self.assertEqual(houses, [("acme", 2), ("self", 1)])
        self.assertEqual(self.COUNTS, [0, 2, 1, 0])

    def test_a_change_of_it_behind_the_call_changes_nothing(self):
        clauses, houses, one = self.made()
        first = self.answers(one)
        clauses[0] = Own("loss", 9)
        clauses.append(Limit("loss", 0))
        houses[0] = ("beta", 5)
        houses.append(("gamma", 1))
        self.assertEqual(self.answers(one), first)
        clauses.clear()
        houses.clear()
        self.assertEqual(self.answers(one), first)

    def test_a_change_of_told_parts_changes_no_later_answer(self):
        one = self.made()[2]
        first = self.answers(one)
        for cents in (1, 10, 29):
            told = one.parts(self.COUNTS, cents)
            told.append((0, 1, 7))
            told[0] = (5, 6, 7)
            self.assertEqual(self.answers(one), first)

    def test_covers_without_clauses_are_free_of_one_another(self):
        one, other = Cover("low", Condition()), Cover("high", Condition())
        one.clauses.append(OWN)
        self.assertEqual(other.clauses, [])
        self.assertEqual(Cover("more", Condition()).clauses, [])


if __name__ == "__main__":
    unittest.main()
