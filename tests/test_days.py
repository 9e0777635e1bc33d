"""[50]: rows that wait for the close of their day."""

import itertools
import random
import unittest

from coverroll.days import Days

ROWS = (5, "row", (1, "a", (2, 3)), None, (), "", 0, 10**60)


def filled(rows):
    days = Days()
    for row in rows:
        days.put(*row)
    return days


class TestOrder(unittest.TestCase):
    def test_in_any_order_of_putting(self):
        rows = [(3, 0, 9, "a"), (3, 0, 10, None), (3, 1, 2, (5,)), (4, 0, 1, 7), (10, 0, 0, "b")]
        for several in itertools.permutations(rows):
            self.assertEqual(filled(several).up_to(10), rows)

    def test_days_decide_ahead_of_ranks_and_ranks_ahead_of_numbers(self):
        self.assertEqual(filled([(2, 0, 0, None), (1, 9, 9, None)]).up_to(5), [(1, 9, 9, None), (2, 0, 0, None)])
        self.assertEqual(filled([(1, 2, 0, None), (1, 1, 9, None)]).up_to(5), [(1, 1, 9, None), (1, 2, 0, None)])
        self.assertEqual(filled([(1, 1, 10, None), (1, 1, 9, None)]).up_to(5), [(1, 1, 9, None), (1, 1, 10, None)])

    def test_what_a_row_tells_decides_nothing(self):
        for several in itertools.permutations(ROWS, 3):
            rows = [(1, 0, number, row) for number, row in enumerate(several)]
            self.assertEqual(filled(rows[::-1]).up_to(1), rows)

    def test_rows_of_each_kind_are_told_as_they_were_handed_in(self):
        for row in ROWS:
            told = filled([(7, 3, 2, row)]).up_to(7)
            self.assertEqual(told, [(7, 3, 2, row)])
            self.assertIs(told[0][3], row)
            self.assertIsInstance(told, list)
            self.assertIsInstance(told[0], tuple)

    def test_many(self):
        chooser = random.Random(3)
        rows = [(chooser.randint(0, 20), chooser.randint(0, 3), number, number % 7) for number in range(300)]
        days = filled(chooser.sample(rows, 300))
        told = []
        for day in (0, 3, 4, 11, 19, 20, 10**6):
            now = days.up_to(day)
            self.assertTrue(all(row[0] <= day for row in now))
            told += now
        self.assertEqual(told, sorted(rows))


class TestUpTo(unittest.TestCase):
    ROWS = [(2, 0, 1, "a"), (5, 0, 2, "b"), (5, 1, 0, "c"), (9, 0, 3, "d")]

    def test_ahead_of_all_at_one_between_and_behind_all(self):
        for day, many in ((0, 0), (1, 0), (2, 1), (3, 1), (4, 1), (5, 3), (6, 3), (8, 3), (9, 4), (10, 4), (10**6, 4)):
            days = filled(self.ROWS[::-1])
            self.assertEqual(days.up_to(day), self.ROWS[:many])
            self.assertEqual(days.up_to(day), [])
            self.assertEqual(days.up_to(10**6), self.ROWS[many:])
            self.assertEqual(days.up_to(10**6), [])

    def test_nothing_waits(self):
        self.assertEqual(Days().up_to(0), [])
        self.assertEqual(Days().up_to(10**6), [])

    def test_the_day_0_and_the_last_one(self):
        days = filled([(10**6, 0, 1, None), (0, 0, 2, None)])
        self.assertEqual(days.up_to(0), [(0, 0, 2, None)])
        self.assertEqual(days.up_to(10**6 - 1), [])
        self.assertEqual(days.up_to(10**6), [(10**6, 0, 1, None)])

    def test_an_earlier_day_behind_a_later_one(self):
        days = filled(self.ROWS)
        days.up_to(5)
        self.assertEqual(days.up_to(2), [])
        self.assertEqual(days.up_to(9), self.ROWS[3:])

    def test_rows_put_behind_a_taking_out(self):
        days = filled(self.ROWS)
        self.assertEqual(days.up_to(5), self.ROWS[:3])
        days.put(1, 0, 7, "late")
        days.put(5, 0, 8, "later")
        days.put(7, 0, 9, "new")
        self.assertEqual(days.up_to(5), [(1, 0, 7, "late"), (5, 0, 8, "later")])
        self.assertEqual(days.up_to(9), [(7, 0, 9, "new"), (9, 0, 3, "d")])

    def test_told_lists_are_the_askers_own(self):
        days = filled(self.ROWS)
        told = days.up_to(1)
        told.append((0, 0, 99, None))
        self.assertEqual(days.up_to(2), self.ROWS[:1])
        told = days.up_to(5)
        told.clear()
        told.append((9, 9, 99, None))
        self.assertIs(days.has_number(99), False)
        self.assertEqual(days.up_to(10**6), self.ROWS[3:])


class TestNumbers(unittest.TestCase):
    def test_ahead_of_the_putting_behind_it_and_long_behind_the_taking_out(self):
        days = Days()
        self.assertIs(days.has_number(7), False)
        days.put(3, 5, 7, None)
        self.assertIs(days.has_number(7), True)
        for other in (0, 3, 5, 6, 8, 10**9):
            self.assertIs(days.has_number(other), False)
        days.up_to(2)
        self.assertIs(days.has_number(7), True)
        days.up_to(3)
        self.assertIs(days.has_number(7), True)
        for number in range(20, 60):
            days.put(number, 0, number, number)
            days.up_to(number)
        self.assertIs(days.has_number(7), True)
        self.assertIs(days.has_number(19), False)
        self.assertTrue(all(days.has_number(number) for number in range(20, 60)))

    def test_the_numbers_at_the_bounds(self):
        days = filled([(1, 0, 0, None), (1, 0, 10**9, None)])
        self.assertIs(days.has_number(0), True)
        self.assertIs(days.has_number(10**9), True)
        self.assertIs(days.has_number(1), False)

    def test_asking_puts_nothing(self):
        days = Days()
        days.has_number(7)
        self.assertIs(days.has_number(7), False)
        self.assertEqual(days.up_to(10**6), [])

    def test_put_tells_none(self):
        days = Days()
        for number, row in enumerate(ROWS):
            self.assertIsNone(days.put(1, 0, number, row))

    def test_two_are_free_of_one_another(self):
        one, other = Days(), Days()
        one.put(1, 0, 7, None)
        self.assertIs(other.has_number(7), False)
        self.assertEqual(other.up_to(5), [])
        self.assertEqual(one.up_to(5), [(1, 0, 7, None)])


if __name__ == "__main__":
    unittest.main()
