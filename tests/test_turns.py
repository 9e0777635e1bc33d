"""[11]: weights. [12]: turns. [13]: what comes of them. [3]: what stays."""

import unittest
from fractions import Fraction
from math import ceil, floor

from coverroll.errors import NoShares
from coverroll.turns import Deal, turns

# Worked out by hand, by the words of [12].
BY_HAND = (
    ([1], [0]),
    ([3], [0, 0, 0]),
    ([1, 1], [0, 1]),
    ([1, 1, 1], [0, 1, 2]),
    ([2, 2], [0, 1, 0, 1]),
    ([2, 1], [0, 0, 1]),
    ([1, 2], [1, 0, 1]),
    ([1, 3], [1, 1, 0, 1]),
    ([3, 1], [0, 0, 0, 1]),
    ([2, 3], [1, 0, 1, 0, 1]),
    ([3, 2], [0, 1, 0, 0, 1]),
    ([1, 1, 2], [2, 0, 1, 2]),
    ([1, 2, 3], [2, 1, 2, 0, 1, 2]),
)

REFUSED = {
    "no weights": ([],),
    "nine": ([1] * 9, [11] * 9, [1] * 100),
    "a weight of 0 or below": ([0], [1, 0], [0, 1], [-1], [5, -1], [1, 2, 0, 3], [101, -1], [-(10**30)]),
    "a truth": ([True], [False], [1, True], [True, 1], [2, False]),
    "another kind among them": (["1"], [1, "2"], [None], [1, None], [[1]], [1, (1,)], [1.0], [1, 2.0], [{}], [b"1"]),
    "above 100": ([101], [100, 1], [1, 100], [50, 51], [13] * 7 + [10], [10**60], [20, 20, 20, 41]),
    "no list": ((1, 2), (1,), (), None, True, False, 1, 0, "12", "", {0: 1}, {1}, range(1, 3), b"12", object()),
}

TAKEN = (
    [1], [100], [1] * 8, [50, 50], [99, 1], [1, 99], [12, 12, 12, 12, 13, 13, 13, 13],
    [93, 1, 1, 1, 1, 1, 1, 1], [1, 1, 1, 1, 1, 1, 1, 93], [33, 33, 34], [7, 11, 13, 17, 19, 23],
)


def lists_up_to(total):
    """All lists of one to eight weights that come to at most total."""
    rows = [[]]
    found = []
    for places in range(8):
        rows = [row + [weight] for row in rows for weight in range(1, total - sum(row) + 1)]
        found.extend(rows)
    return found


def by_the_rule(weights):
    """[12] again, with fractions, in another form than the program's."""
    total = sum(weights)
    dealt = [0] * len(weights)
    wheel = []
    for n in range(total):
        able = [p for p, w in enumerate(weights) if Fraction(dealt[p] * total) < w * (n + 1)]
        place = min(able, key=lambda p: (ceil(Fraction((dealt[p] + 1) * total, weights[p])), p))
        dealt[place] += 1
        wheel.append(place)
    return wheel


class TestWeights(unittest.TestCase):
    def test_refused(self):
        for why, several in REFUSED.items():
            for weights in several:
                with self.subTest(why=why, weights=weights):
                    self.assertRaises(NoShares, turns, weights)
                    self.assertRaises(NoShares, Deal, weights)

    def test_taken(self):
        for weights in TAKEN:
            with self.subTest(weights=weights):
                self.assertEqual(len(turns(weights)), sum(weights))
                self.assertEqual(Deal(weights).weights, weights)

    def test_a_refusal_changes_nothing(self):
        weights = [1, 2, 0, 3]
        self.assertRaises(NoShares, turns, weights)
        self.assertRaises(NoShares, Deal, weights)
        self.assertEqual(weights, [1, 2, 0, 3])


class TestTurns(unittest.TestCase):
    def test_by_hand(self):
        for weights, wheel in BY_HAND:
            with self.subTest(weights=weights):
                self.assertEqual(turns(weights), wheel)
                self.assertEqual(Deal(weights).wheel, wheel)

    def test_by_the_rule(self):
        for weights in list(TAKEN) + lists_up_to(9):
            self.assertEqual(turns(weights), by_the_rule(weights), weights)

    def test_one_weight_has_all_turns(self):
        for weight in (1, 2, 99, 100):
            self.assertEqual(turns([weight]), [0] * weight)

    def test_weights_alike_go_round(self):
        for places in range(1, 9):
            self.assertEqual(turns([1] * places), list(range(places)))
            self.assertEqual(turns([12] * places), list(range(places)) * 12)

    def test_who_in_the_first_rounds(self):
        for weights, wheel in BY_HAND:
            deal = Deal(weights)
            self.assertEqual([deal.who(n) for n in range(3 * len(wheel))], wheel * 3)

    def test_who_far_behind_the_first_round(self):
        for weights in list(TAKEN) + [weights for weights, wheel in BY_HAND]:
            deal = Deal(weights)
            wheel = turns(weights)
            total = sum(weights)
            for rounds in (1, 10**12, 10**57 + 7):
                for turn in (0, 1, total // 2, total - 1):
                    if turn < total:
                        self.assertEqual(deal.who(rounds * total + turn), wheel[turn])
        self.assertEqual(Deal([1, 2, 3]).who(10**60 - 1), [2, 1, 2, 0, 1, 2][(10**60 - 1) % 6])


class TestShares(unittest.TestCase):
    def test_no_share_is_off_by_a_whole_cent(self):
        for weights in list(TAKEN) + lists_up_to(8):
            deal = Deal(weights)
            total = sum(weights)
            walked = [0] * len(weights)
            for n in range(2 * total + 2):
                self.assertEqual(deal.counts_to(n), walked)
                for place, weight in enumerate(weights):
                    share = Fraction(n * weight, total)
                    self.assertIn(walked[place], (floor(share), ceil(share)), (weights, n))
                walked[deal.who(n)] += 1

    def test_each_place_has_its_weight_of_a_round(self):
        for weights in list(TAKEN) + lists_up_to(8):
            wheel = turns(weights)
            self.assertEqual([wheel.count(place) for place in range(len(weights))], weights)
            self.assertEqual(Deal(weights).counts_to(sum(weights)), weights)

    def test_counts_to(self):
        deal = Deal([1, 2, 3])
        self.assertEqual(deal.counts_to(0), [0, 0, 0])
        self.assertEqual(deal.counts_to(1), [0, 0, 1])
        self.assertEqual(deal.counts_to(4), [1, 1, 2])
        self.assertEqual(deal.counts_to(5), [1, 2, 2])
        self.assertEqual(deal.counts_to(6), [1, 2, 3])
        self.assertEqual(deal.counts_to(7), [1, 2, 4])
        self.assertEqual(deal.counts_to(12), [2, 4, 6])

    def test_counts_to_of_sixty_figures(self):
        deal = Deal([1, 2, 3])
        rounds = (10**60 - 1) // 6
        self.assertEqual((10**60 - 1) % 6, 3)
        self.assertEqual(deal.counts_to(10**60 - 1), [rounds, 2 * rounds + 1, 3 * rounds + 2])
        self.assertEqual(deal.counts_to(6 * 10**58), [10**58, 2 * 10**58, 3 * 10**58])
        self.assertEqual(deal.counts_to(6 * 10**58 + 1), [10**58, 2 * 10**58, 3 * 10**58 + 1])
        self.assertEqual(Deal([100]).counts_to(10**60 - 1), [10**60 - 1])

    def test_counts_come_to_all_cents_and_never_fall(self):
        for weights in TAKEN:
            deal = Deal(weights)
            ahead = deal.counts_to(0)
            for n in list(range(1, 250)) + [10**20, 10**20 + 1, 10**59, 10**60 - 1]:
                counts = deal.counts_to(n)
                self.assertEqual(sum(counts), n)
                self.assertTrue(all(now >= then for now, then in zip(counts, ahead)))
                ahead = counts

    def test_between(self):
        deal = Deal([1, 2, 3])
        self.assertEqual(deal.between(0, 4), [1, 1, 2])
        self.assertEqual(deal.between(1, 4), [1, 1, 1])
        self.assertEqual(deal.between(3, 4), [1, 0, 0])
        self.assertEqual(deal.between(4, 8), [0, 2, 2])
        self.assertEqual(deal.between(0, 6), [1, 2, 3])
        self.assertEqual(deal.between(6, 12), [1, 2, 3])
        self.assertEqual(deal.between(5, 6), [0, 0, 1])

    def test_between_is_what_who_tells(self):
        for weights in ([1], [2, 3], [1, 2, 3], [3, 1, 4, 1, 5]):
            deal = Deal(weights)
            for base in (0, 6 * 14 * 5 * 10**55):
                for n in range(2 * sum(weights) + 1):
                    walked = [0] * len(weights)
                    for m in range(n, 2 * sum(weights) + 1):
                        self.assertEqual(deal.between(base + n, base + m), walked)
                        walked[deal.who(base + m)] += 1

    def test_between_of_sixty_figures(self):
        deal = Deal([1, 2, 3])
        self.assertEqual(deal.between(0, 6 * 10**58), [10**58, 2 * 10**58, 3 * 10**58])
        self.assertEqual(deal.between(6 * 10**58, 6 * 10**58 + 4), [1, 1, 2])
        self.assertEqual(deal.between(6 * 10**58 + 3, 6 * 10**58 + 6), [1, 1, 1])

    def test_between_of_no_cents(self):
        for weights in TAKEN:
            deal = Deal(weights)
            for n in (0, 1, sum(weights) - 1, sum(weights), sum(weights) + 1, 10**60 - 1):
                self.assertEqual(deal.between(n, n), [0] * len(weights))


class TestWhatStays(unittest.TestCase):
    def test_the_weights_handed_in_stay(self):
        weights = [3, 1, 2]
        deal = Deal(weights)
        turns(weights)
        deal.who(4)
        deal.counts_to(9)
        deal.between(2, 9)
        self.assertEqual(weights, [3, 1, 2])

    def test_a_change_of_the_weights_behind_the_call_changes_nothing(self):
        weights = [3, 1, 2]
        deal = Deal(weights)
        wheel = turns(weights)
        first = self.answers(deal)
        weights[0] = 1
        weights.append(50)
        self.assertEqual(self.answers(deal), first)
        self.assertEqual(deal.weights, [3, 1, 2])
        self.assertEqual(deal.wheel, wheel)
        self.assertEqual(turns([3, 1, 2]), wheel)

    def test_a_change_of_a_told_list_changes_no_later_answer(self):
        deal = Deal([3, 1, 2])
        first = self.answers(deal)
        wheel = turns([3, 1, 2])
        for n in (0, 1, 6, 7, 12, 100):
            for told in (turns([3, 1, 2]), deal.counts_to(n), deal.between(0, n), deal.between(n, n)):
                told[0] = 77
                told.append(5)
                self.assertEqual(self.answers(deal), first)
                self.assertEqual(turns([3, 1, 2]), wheel)

    def test_two_deals_are_free_of_one_another(self):
        weights = [2, 1]
        first = Deal(weights)
        weights.append(4)
        second = Deal(weights)
        self.assertEqual(first.counts_to(3), [2, 1])
        self.assertEqual(second.counts_to(7), [2, 1, 4])

    def answers(self, deal):
        who = [deal.who(n) for n in range(13)]
        counts = [deal.counts_to(n) for n in range(13)]
        between = [deal.between(n, m) for n in range(8) for m in range(n, 13)]
        return (who, counts, between)


if __name__ == "__main__":
    unittest.main()
