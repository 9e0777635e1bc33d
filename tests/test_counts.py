"""[40]: counts."""

import itertools
import unittest

from coverroll.counts import Counts

FAR = 10**60 - 1
NAMES = ("low", "high", "lo", "w")
CLAUSES = (0, 1, 7)
KEYS = ("storm", "storm.acme", "roof", "low", 0, 1, 7, 2739, 10**9)


class TestCounts(unittest.TestCase):
    def told(self, counts):
        return {place: counts.have(*place) for place in itertools.product(NAMES, CLAUSES, KEYS)}

    def test_nought_where_nothing_was_added(self):
        counts = Counts()
        self.assertEqual(set(self.told(counts).values()), {0})
        counts.add("low", 0, "storm", 5)
        counts.add("low", 0, "roof", 0)
        told = self.told(counts)
        self.assertEqual(told.pop(("low", 0, "storm")), 5)
        self.assertEqual(set(told.values()), {0})

    def test_asking_adds_nothing(self):
        counts = Counts()
        self.assertEqual([counts.have("low", 0, 1) for turn in range(3)], [0, 0, 0])
        counts.add("low", 0, 1, 4)
        self.assertEqual([counts.have("low", 0, 1) for turn in range(3)], [4, 4, 4])

    def test_kept_apart_by_name_clause_and_key(self):
        counts = Counts()
        wanted = {}
        for number, place in enumerate(itertools.product(NAMES, CLAUSES, KEYS)):
            wanted[place] = 10 * number + 1
            counts.add(*place, 10 * number + 1)
        self.assertEqual(self.told(counts), wanted)
        for place in list(wanted)[::-1]:
            wanted[place] += 3
            counts.add(*place, 3)
            self.assertEqual(self.told(counts), wanted)

    def test_a_text_and_a_number_as_keys(self):
        counts = Counts()
        counts.add("low", 0, 1, 5)
        counts.add("low", 0, "1", 7)
        counts.add("low", 1, 0, 9)
        self.assertEqual([counts.have("low", 0, 1), counts.have("low", 0, "1")], [5, 7])
        self.assertEqual([counts.have("low", 1, 0), counts.have("low", 1, 1)], [9, 0])

    def test_what_is_added_adds_up(self):
        counts = Counts()
        for cents in (1, 0, 5, 5, 10**12 - 1, FAR - 10**12, 0):
            counts.add("low", 2, "storm", cents)
        self.assertEqual(counts.have("low", 2, "storm"), FAR + 10)

    def test_sixty_figures(self):
        counts = Counts()
        counts.add("low", 0, "storm", FAR - 1)
        self.assertEqual(counts.have("low", 0, "storm"), FAR - 1)
        counts.add("low", 0, "storm", 1)
        self.assertEqual(counts.have("low", 0, "storm"), FAR)

    def test_add_tells_none(self):
        counts = Counts()
        self.assertIsNone(counts.add("low", 0, "storm", 5))
        self.assertIsNone(counts.add("low", 0, "storm", 0))
        self.assertIsNone(counts.add("low", 0, 3, FAR))

    def test_two_counts_are_free_of_one_another(self):
        one, other = Counts(), Counts()
        one.add("low", 0, "storm", 5)
        self.assertEqual(other.have("low", 0, "storm"), 0)
        self.assertEqual(Counts().have("low", 0, "storm"), 0)


class TestCopies(unittest.TestCase):
    def test_the_same_numbers(self):
        counts = Counts()
        self.assertEqual(counts.copied().have("low", 0, "storm"), 0)
        counts.add("low", 0, "storm", 5)
        counts.add("high", 3, 7, FAR)
        copy = counts.copied()
        self.assertIsInstance(copy, Counts)
        self.assertIsNot(copy, counts)
        self.assertEqual([copy.have("low", 0, "storm"), copy.have("high", 3, 7), copy.have("high", 3, 8)], [5, FAR, 0])

    def test_each_added_to_behind_the_copying(self):
        counts = Counts()
        counts.add("low", 0, "storm", 5)
        copy = counts.copied()
        again = copy.copied()
        counts.add("low", 0, "storm", 10)
        counts.add("low", 1, "storm", 20)
        copy.add("low", 0, "storm", 100)
        copy.add("low", 2, "storm", 200)
        again.add("low", 0, "storm", 1000)
        told = [[one.have("low", k, "storm") for k in range(3)] for one in (counts, copy, again)]
        self.assertEqual(told, [[15, 20, 0], [105, 0, 200], [1005, 0, 0]])


if __name__ == "__main__":
    unittest.main()
