"""[30]: run lists. [31]: what is made of them. [3]: what stays."""

import itertools
import unittest

from coverroll.runs import count_of, cut_out, cut_within, join_runs, lowest_of

FAR = 10**60 - 10
BASES = (0, -4, -FAR, FAR)


def runs_of(numbers):
    """The one run list of some numbers, found number by number."""
    runs = []
    for n in sorted(numbers):
        if runs and runs[-1][1] == n:
            runs[-1] = (runs[-1][0], n + 1)
        else:
            runs.append((n, n + 1))
    return runs


def subsets(many):
    return [[n for n in range(many) if bits >> n & 1] for bits in range(1 << many)]


class TestByNumbers(unittest.TestCase):
    """Each function against sets of numbers, for all run lists among a few numbers."""

    def moved(self, numbers, base):
        return [base + n for n in numbers]

    def test_cut_within(self):
        for base in BASES:
            for numbers in subsets(7):
                several = self.moved(numbers, base)
                for lo, hi in itertools.product(range(base - 1, base + 9), repeat=2):
                    told = cut_within(runs_of(several), lo, hi)
                    self.assertEqual(told, runs_of([n for n in several if lo <= n < hi]))

    def test_lowest_of(self):
        for base in BASES:
            for numbers in subsets(8):
                several = self.moved(numbers, base)
                for n in list(range(10)) + [10**60 - 1]:
                    self.assertEqual(lowest_of(runs_of(several), n), runs_of(several[:n]))
                self.assertEqual(lowest_of(runs_of(several), None), runs_of(several))

    def test_cut_out(self):
        for base in BASES:
            for numbers, others in itertools.product(subsets(6), repeat=2):
                told = cut_out(runs_of(self.moved(numbers, base)), runs_of(self.moved(others, base)))
                self.assertEqual(told, runs_of(self.moved(set(numbers) - set(others), base)))

    def test_count_of(self):
        for base in BASES:
            for numbers in subsets(8):
                self.assertEqual(count_of(runs_of(self.moved(numbers, base))), len(numbers))

    def test_join_runs(self):
        pairs = [(lo, hi) for lo in range(5) for hi in range(lo, 5)]
        for base in BASES:
            moved = [(base + lo, base + hi) for lo, hi in pairs]
            for many in range(4):
                for several in itertools.product(moved, repeat=many):
                    numbers = {n for lo, hi in several for n in range(lo, hi)}
                    self.assertEqual(join_runs(list(several)), runs_of(numbers), several)


class TestWithin(unittest.TestCase):
    def test_no_runs(self):
        for lo, hi in ((0, 9), (9, 0), (0, 0), (-5, 5), (-FAR, FAR)):
            self.assertEqual(cut_within([], lo, hi), [])

    def test_bounds_at_beside_and_between_ends(self):
        runs = [(-20, -10), (0, 10), (20, 30)]
        self.assertEqual(cut_within(runs, -20, 30), runs)
        self.assertEqual(cut_within(runs, -21, 31), runs)
        self.assertEqual(cut_within(runs, -19, 29), [(-19, -10), (0, 10), (20, 29)])
        self.assertEqual(cut_within(runs, -10, 20), [(0, 10)])
        self.assertEqual(cut_within(runs, -11, 21), [(-11, -10), (0, 10), (20, 21)])
        self.assertEqual(cut_within(runs, 3, 7), [(3, 7)])
        self.assertEqual(cut_within(runs, 3, 25), [(3, 10), (20, 25)])
        self.assertEqual(cut_within(runs, 12, 18), [])
        self.assertEqual(cut_within(runs, 10, 20), [])
        self.assertEqual(cut_within(runs, 40, 50), [])
        self.assertEqual(cut_within(runs, -50, -20), [])

    def test_bounds_turned_about_or_equal(self):
        runs = [(0, 10), (20, 30)]
        for lo, hi in ((5, 5), (5, 4), (30, 0), (0, 0), (25, 5), (FAR, -FAR)):
            self.assertEqual(cut_within(runs, lo, hi), [])

    def test_sixty_figures(self):
        runs = [(-FAR, -5), (0, FAR)]
        self.assertEqual(cut_within(runs, -FAR + 1, FAR - 1), [(-FAR + 1, -5), (0, FAR - 1)])
        self.assertEqual(cut_within(runs, -7, FAR + 9), [(-7, -5), (0, FAR)])


class TestLowest(unittest.TestCase):
    def test_no_runs(self):
        for n in (0, 1, 10**60 - 1, None):
            self.assertEqual(lowest_of([], n), [])

    def test_several(self):
        runs = [(-20, -10), (0, 10), (20, 30)]
        self.assertEqual(lowest_of(runs, 0), [])
        self.assertEqual(lowest_of(runs, 1), [(-20, -19)])
        self.assertEqual(lowest_of(runs, 10), [(-20, -10)])
        self.assertEqual(lowest_of(runs, 11), [(-20, -10), (0, 1)])
        self.assertEqual(lowest_of(runs, 29), [(-20, -10), (0, 10), (20, 29)])
        for n in (30, 31, 10**60 - 1, None):
            self.assertEqual(lowest_of(runs, n), runs)

    def test_sixty_figures(self):
        self.assertEqual(lowest_of([(-FAR, 0), (5, FAR)], FAR + 1), [(-FAR, 0), (5, 6)])


class TestOut(unittest.TestCase):
    def test_nothing_of_one_of_them(self):
        self.assertEqual(cut_out([], []), [])
        self.assertEqual(cut_out([], [(0, 5)]), [])
        self.assertEqual(cut_out([(0, 5), (7, 9)], []), [(0, 5), (7, 9)])

    def test_in_over_at_an_end_of_and_around_a_run(self):
        run = [(10, 20)]
        self.assertEqual(cut_out(run, [(12, 15)]), [(10, 12), (15, 20)])
        self.assertEqual(cut_out(run, [(5, 15)]), [(15, 20)])
        self.assertEqual(cut_out(run, [(15, 25)]), [(10, 15)])
        self.assertEqual(cut_out(run, [(10, 12)]), [(12, 20)])
        self.assertEqual(cut_out(run, [(18, 20)]), [(10, 18)])
        self.assertEqual(cut_out(run, [(10, 20)]), [])
        self.assertEqual(cut_out(run, [(5, 25)]), [])
        self.assertEqual(cut_out(run, [(9, 21)]), [])
        self.assertEqual(cut_out(run, [(0, 10)]), run)
        self.assertEqual(cut_out(run, [(20, 30)]), run)
        self.assertEqual(cut_out(run, [(0, 9), (21, 30)]), run)
        self.assertEqual(cut_out(run, [(10, 11), (12, 13), (19, 20)]), [(11, 12), (13, 19)])

    def test_several(self):
        runs = [(-30, -20), (-10, 0), (10, 20), (30, 40)]
        self.assertEqual(cut_out(runs, [(-25, 35)]), [(-30, -25), (35, 40)])
        self.assertEqual(cut_out(runs, [(-50, -45), (-5, 15), (50, 60)]), [(-30, -20), (-10, -5), (15, 20), (30, 40)])
        self.assertEqual(cut_out(runs, runs), [])

    def test_sixty_figures(self):
        self.assertEqual(cut_out([(-FAR, FAR)], [(-1, 1)]), [(-FAR, -1), (1, FAR)])
        self.assertEqual(cut_out([(0, 5)], [(-FAR, FAR)]), [])


class TestCount(unittest.TestCase):
    def test_count_of(self):
        self.assertEqual(count_of([]), 0)
        self.assertEqual(count_of([(3, 4)]), 1)
        self.assertEqual(count_of([(-20, -10), (-5, 5), (6, 9)]), 23)
        self.assertEqual(count_of([(-FAR, 0), (1, FAR)]), 2 * FAR - 1)


class TestJoin(unittest.TestCase):
    def test_none_and_one(self):
        self.assertEqual(join_runs([]), [])
        self.assertEqual(join_runs([(3, 7)]), [(3, 7)])
        self.assertEqual(join_runs([(3, 3)]), [])
        self.assertEqual(join_runs([(-3, -3), (5, 5)]), [])

    def test_alike_touching_overlapping_within(self):
        self.assertEqual(join_runs([(3, 7), (3, 7)]), [(3, 7)])
        self.assertEqual(join_runs([(3, 7), (7, 9)]), [(3, 9)])
        self.assertEqual(join_runs([(7, 9), (3, 7)]), [(3, 9)])
        self.assertEqual(join_runs([(3, 7), (8, 9)]), [(3, 7), (8, 9)])
        self.assertEqual(join_runs([(3, 7), (5, 9)]), [(3, 9)])
        self.assertEqual(join_runs([(3, 9), (5, 7)]), [(3, 9)])
        self.assertEqual(join_runs([(5, 7), (3, 9)]), [(3, 9)])
        self.assertEqual(join_runs([(3, 5), (3, 9)]), [(3, 9)])
        self.assertEqual(join_runs([(0, 9), (1, 2), (5, 6), (8, 12)]), [(0, 12)])

    def test_equal_numbers_join_nothing(self):
        self.assertEqual(join_runs([(3, 7), (7, 7), (8, 9)]), [(3, 7), (8, 9)])
        self.assertEqual(join_runs([(5, 5), (3, 7)]), [(3, 7)])
        self.assertEqual(join_runs([(3, 3), (3, 7)]), [(3, 7)])
        self.assertEqual(join_runs([(9, 9), (3, 7)]), [(3, 7)])

    def test_in_any_order(self):
        for several in itertools.permutations([(-9, -5), (-5, -5), (-6, 0), (2, 4), (4, 5), (FAR, FAR + 2)]):
            self.assertEqual(join_runs(list(several)), [(-9, 0), (2, 5), (FAR, FAR + 2)])


class TestWhatStays(unittest.TestCase):
    def answers(self, runs, others):
        return [
            cut_within(runs, -100, 100), cut_within(runs, 2, 3), lowest_of(runs, 5), lowest_of(runs, 100),
            lowest_of(runs, None), cut_out(runs, []), cut_out(runs, others), join_runs(runs), join_runs(others[::-1]),
        ]

    def test_lists_handed_in_stay_and_told_ones_are_new(self):
        runs, others = [(0, 4), (6, 9)], [(1, 2), (3, 7)]
        first = self.answers(runs, others)
        for told in self.answers(runs, others):
            told.append((50, 60))
            told[0] = (70, 80)
            self.assertEqual((runs, others), ([(0, 4), (6, 9)], [(1, 2), (3, 7)]))
            self.assertEqual(self.answers(runs, others), first)
        pairs = [(6, 9), (0, 4), (3, 3)]
        join_runs(pairs)
        count_of(runs)
        self.assertEqual(pairs, [(6, 9), (0, 4), (3, 3)])

    def test_a_change_behind_the_call_changes_nothing(self):
        runs, others = [(0, 4), (6, 9)], [(1, 2), (3, 7)]
        told = self.answers(runs, others)
        alike = self.answers(list(runs), list(others))
        runs.append((20, 30))
        runs[0] = (-5, 5)
        others.clear()
        self.assertEqual(told, alike)

    def test_runs_are_tuples_in_a_list(self):
        for told in self.answers([(0, 4), (6, 9)], [(1, 2), (3, 7)]):
            self.assertIsInstance(told, list)
            self.assertTrue(all(isinstance(run, tuple) for run in told))


if __name__ == "__main__":
    unittest.main()
