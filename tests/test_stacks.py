"""[60]: what is taken from a stack."""

import random
import unittest

from coverroll.stacks import taken_from


def by_single_cents(stack, cents):
    standing = [(number, cent) for number, left in stack for cent in range(left)]
    gone = [standing.pop() for turn in range(min(cents, len(standing)))]
    pieces = []
    for number, cent in gone:
        if pieces and pieces[-1][0] == number:
            pieces[-1] = (number, cent, pieces[-1][2])
        else:
            pieces.append((number, cent, cent + 1))
    return pieces, cents - len(gone)


class TestTakenFrom(unittest.TestCase):
    STACK = [(7, 10), (3, 0), (9, 4), (0, 0), (5, 6)]

    def test_from_the_top_down(self):
        for cents, wanted in (
            (1, ([(5, 5, 6)], 0)), (5, ([(5, 1, 6)], 0)), (6, ([(5, 0, 6)], 0)),
            (7, ([(5, 0, 6), (9, 3, 4)], 0)), (10, ([(5, 0, 6), (9, 0, 4)], 0)), (11, ([(5, 0, 6), (9, 0, 4), (7, 9, 10)], 0)),
            (20, ([(5, 0, 6), (9, 0, 4), (7, 0, 10)], 0)), (21, ([(5, 0, 6), (9, 0, 4), (7, 0, 10)], 1)),
            (10**12 - 1, ([(5, 0, 6), (9, 0, 4), (7, 0, 10)], 10**12 - 21)),
        ):
            self.assertEqual(taken_from(self.STACK, cents), wanted)

    def test_no_cents(self):
        self.assertEqual(taken_from(self.STACK, 0), ([], 0))
        self.assertEqual(taken_from([], 0), ([], 0))

    def test_an_empty_stack(self):
        self.assertEqual(taken_from([], 5), ([], 5))
        self.assertEqual(taken_from([(1, 0), (2, 0)], 5), ([], 5))

    def test_nothing_stands_on_top(self):
        self.assertEqual(taken_from([(1, 3), (2, 0)], 2), ([(1, 1, 3)], 0))
        self.assertEqual(taken_from([(1, 0), (2, 3)], 4), ([(2, 0, 3)], 1))

    def test_great_numbers(self):
        most = 10**12 - 1
        stack = [(number, most) for number in range(300)]
        pieces, over = taken_from(stack, 300 * most + 7)
        self.assertEqual(pieces, [(number, 0, most) for number in range(299, -1, -1)])
        self.assertEqual(over, 7)

    def test_kinds(self):
        told = taken_from(self.STACK, 7)
        self.assertIsInstance(told, tuple)
        self.assertIsInstance(told[0], list)
        self.assertTrue(all(isinstance(piece, tuple) for piece in told[0]))

    def test_the_stack_stays_and_what_is_told_is_the_askers_own(self):
        stack = list(self.STACK)
        told = taken_from(stack, 12)
        self.assertEqual(stack, self.STACK)
        told[0].clear()
        self.assertEqual(stack, self.STACK)
        self.assertEqual(taken_from(stack, 12), ([(5, 0, 6), (9, 0, 4), (7, 8, 10)], 0))

    def test_against_single_cents(self):
        chooser = random.Random(60)
        for turn in range(500):
            numbers = chooser.sample(range(20), turn % 6)
            stack = [(number, chooser.choice((0, 1, 2, chooser.randint(0, 12)))) for number in numbers]
            whole = sum(left for number, left in stack)
            for cents in {0, 1, whole, whole + 1, max(whole - 1, 0), chooser.randint(0, whole + 3)}:
                self.assertEqual(taken_from(stack, cents), by_single_cents(stack, cents))

    def test_two_takings_are_as_one(self):
        chooser = random.Random(61)
        for turn in range(300):
            stack = [(number, chooser.randint(0, 9)) for number in range(5)]
            first, second = chooser.randint(0, 25), chooser.randint(0, 25)
            pieces, over = taken_from(stack, first)
            left = dict(stack)
            for number, lo, hi in pieces:
                self.assertEqual(left[number], hi)
                left[number] = lo
            more, more_over = taken_from(list(left.items()), second)
            for number, lo, hi in more:
                left[number] = lo
            whole, whole_over = taken_from(stack, first + second)
            self.assertEqual(over + more_over, whole_over)
            self.assertEqual([(number, lo) for number, lo, hi in whole], [
                (number, left[number]) for number, stood in reversed(stack) if left[number] < stood
            ])


if __name__ == "__main__":
    unittest.main()
