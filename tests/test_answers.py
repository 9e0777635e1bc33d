"""[94]: answers as texts."""

import unittest

from coverroll.answers import show_bearers, show_ends, show_fault, show_path, show_pieces, show_strips

MOST = 10**12 - 1


class TestAnswers(unittest.TestCase):
    def check(self, show, rows, text):
        copy = list(rows)
        self.assertEqual(show(rows), text)
        self.assertEqual(rows, copy)

    def test_the_documents_own_examples(self):
        self.check(show_strips, [(0, 100, "low", 0), (100, 600, "low", -1)], "0.00-1.00 low 0; 1.00-6.00 low paid")
        self.assertEqual(show_fault((301, "gap", 300, ("hail", "", 0, 364))), "gap 3.01 300 hail - 0 364")

    def test_nothing(self):
        for show in (show_strips, show_bearers, show_pieces, show_ends, show_path):
            self.check(show, [], "nothing")
        self.assertEqual(show_fault(None), "nothing")

    def test_strips(self):
        self.check(show_strips, [(0, 5, "", 0)], "0.00-0.05 none")
        self.check(show_strips, [(0, MOST, "low", -1)], "0.00-9999999999.99 low paid")
        self.check(show_strips, [(7, 10, "paid", 12)], "0.07-0.10 paid 12")
        self.check(show_strips, [(0, 5, "none", 0), (5, 6, "none", -1)], "0.00-0.05 none 0; 0.05-0.06 none paid")
        self.check(show_strips, [(0, 1, "b", 3), (1, 99, "a", -1), (99, 100, "b", 3)],
            "0.00-0.01 b 3; 0.01-0.99 a paid; 0.99-1.00 b 3")

    def test_bearers(self):
        self.check(show_bearers, [("acme", "low", -1, 1250)], "acme low 12.50")
        self.check(show_bearers, [("", "low", 0, 5)], "- low 0 0.05")
        self.check(show_bearers, [("", "", 0, 5)], "- none 0.05")
        rows = [("", "", 0, 1), ("", "low", 11, 20), ("acme", "high", -1, 3), ("acme", "low", -1, 10**30)]
        self.check(show_bearers, rows, "- none 0.01; - low 11 0.20; acme high 0.03; acme low " + "1" + "0" * 28 + ".00")

    def test_pieces(self):
        self.check(show_pieces, [(7, 0, 5)], "7 0.00-0.05")
        self.check(show_pieces, [(10**9, 100, MOST), (0, 99, 101)], "1000000000 1.00-9999999999.99; 0 0.99-1.01")

    def test_ends(self):
        self.check(show_ends, [(0, "", 5)], "0 - 0.05")
        self.check(show_ends, [(0, "", 5), (1, "acme", 100), (4, "beta", 300 * MOST)],
            "0 - 0.05; 1 acme 1.00; 4 beta 2999999999997.00")

    def test_paths(self):
        self.check(show_path, [(0, 7, 163, "acme", "low", -1)], "0 7 163 acme low")
        self.check(show_path, [(0, 7, 0, "", "low", 2)], "0 7 0 - low 2")
        self.check(show_path, [(0, 7, 0, "", "", 0)], "0 7 0 - none")
        steps = [(0, 10**9, MOST - 1, "acme", "low", -1), (1, 0, 42, "zeta", "top", -1), (2, 5, 3, "", "top", 0)]
        self.check(show_path, steps, "0 1000000000 999999999998 acme low; 1 0 42 zeta top; 2 5 3 - top 0")

    def test_faults(self):
        for fault, text in (
            ((1, "double", 0, ("hail", "roof", 0, 10**6)), "double 0.01 0 hail roof 0 1000000"),
            ((MOST, "gap", MOST - 1, ("", "roof", 5, 5)), "gap 9999999999.99 999999999998 - roof 5 5"),
            ((100, "gap", 99, ("", "", 365, 729)), "gap 1.00 99 - - 365 729"),
            ((150, "double", 7, ("fire", "", 1, 2)), "double 1.50 7 fire - 1 2"),
        ):
            self.assertEqual(show_fault(fault), text)


if __name__ == "__main__":
    unittest.main()
