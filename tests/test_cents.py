"""[2]: whole numbers. [10]: amounts written and read."""

import unittest

from coverroll.cents import is_whole, read_cents, show_cents
from coverroll.errors import NoAmount

MOST = 10**12 - 1

WRITTEN = (
    (0, "0.00"), (1, "0.01"), (5, "0.05"), (9, "0.09"), (10, "0.10"), (99, "0.99"),
    (100, "1.00"), (101, "1.01"), (110, "1.10"), (999, "9.99"), (1000, "10.00"),
    (1250, "12.50"), (10203, "102.03"), (10**11, "1000000000.00"), (MOST, "9999999999.99"),
)

REFUSED_TEXTS = {
    "noughts ahead": ("00.00", "01.00", "007.50", "0000000001.00", "0012.50"),
    "a sign": ("+1.00", "-1.00", "-0.05", "1.-5", "1.+5", "1.00-", "-.50"),
    "a blank": (" 1.00", "1.00 ", "1 .00", "1. 00", "1.0 0", "1 0.00", "1. 5", "1.5 ", " .50", "\t1.00"),
    "no figure of 0 to 9": (
        "\u0661.00", "1.\u0660\u0660", "1.0\u00b2", "\u00bd.00", "\uff11.00", "\u0967\u0968.50",
        "a.00", "1.0a", "1.x0", "1_0.00", "1_000.00", "1.0_", "1e3.00", "0x1.00", "1,000.00",
    ),
    "no point": ("1", "100", "0", "1,00", "1:00", "1\u066b00"),
    "two points": ("1.00.00", "1..00", "1.0.0", ".1.00", "1.00.", "..00", "1.."),
    "not two figures behind it": ("1.", "1.0", "1.5", "1.000", "1.050", "0.", "0.0", "0.000"),
    "nothing ahead of it": (".00", ".50", ".05"),
    "eleven figures ahead of it": ("10000000000.00", "99999999999.99", "00000000000.00"),
    "a row's end": ("1.00\n", "\n1.00", "1.\n0", "1\n.00", "1.00\r", "1.0\n", "1.00\r\n"),
    "no signs": ("",),
    "a point alone": (".",),
    "another sign": ("$1.00", "1.00c", "one", "None"),
}

NO_TEXTS = (None, True, False, 0, 5, 100, 1.0, 12.5, b"1.00", [], ["1.00"], ("1.00",), {}, {"1.00": 1}, object())


class TestIsWhole(unittest.TestCase):
    def test_whole_numbers(self):
        for thing in (0, 1, 2, -1, 7, 10**6, 10**12, 10**60, -(10**60)):
            with self.subTest(thing=thing):
                self.assertIs(is_whole(thing), True)

    def test_truths_and_other_kinds(self):
        for thing in (True, False, None, "", "0", "1", "a", [], [1], (), (1,), {}, {1: 1}, 1.0, 0.5, b"1", object()):
            with self.subTest(thing=thing):
                self.assertIs(is_whole(thing), False)


class TestShow(unittest.TestCase):
    def test_whole_part_point_and_two_figures(self):
        for cents, text in WRITTEN:
            with self.subTest(cents=cents):
                self.assertEqual(show_cents(cents), text)

    def test_more_than_an_amount_up_to_sixty_figures(self):
        self.assertEqual(show_cents(10**12), "10000000000.00")
        self.assertEqual(show_cents(10**12 + 7), "10000000000.07")
        self.assertEqual(show_cents(10**59), "1" + "0" * 57 + ".00")
        self.assertEqual(show_cents(10**59 + 5), "1" + "0" * 57 + ".05")
        self.assertEqual(show_cents(10**60 - 1), "9" * 58 + ".99")
        self.assertEqual(show_cents(int("123456" * 10)), ("123456" * 10)[:-2] + ".56")


class TestRead(unittest.TestCase):
    def test_what_is_written(self):
        for cents, text in WRITTEN:
            with self.subTest(text=text):
                self.assertEqual(read_cents(text), cents)
                self.assertIs(is_whole(read_cents(text)), True)

    def test_what_is_shown_is_read_to_the_same(self):
        amounts = list(range(0, 2500)) + [10**k + d for k in range(3, 12) for d in (-1, 0, 1, 37)]
        amounts += [MOST, MOST - 1, MOST - 99, MOST - 100] + list(range(0, 10**12, 7919 * 10**5 + 13))
        for cents in amounts:
            self.assertEqual(read_cents(show_cents(cents)), cents)

    def test_what_is_read_is_shown_by_the_same_text(self):
        for whole in ("0", "1", "9", "10", "99", "100", "1020", "1000000000", "9999999999"):
            for rest in range(100):
                text = whole + "." + str(rest).zfill(2)
                self.assertEqual(show_cents(read_cents(text)), text)

    def test_texts_of_another_form(self):
        for why, texts in REFUSED_TEXTS.items():
            for text in texts:
                with self.subTest(why=why, text=text):
                    self.assertRaises(NoAmount, read_cents, text)

    def test_shown_amounts_beyond_the_bound_are_not_read(self):
        for cents in (10**12, 10**12 + 1, 10**30, 10**60 - 1):
            with self.subTest(cents=cents):
                self.assertRaises(NoAmount, read_cents, show_cents(cents))

    def test_what_is_no_text(self):
        for thing in NO_TEXTS:
            with self.subTest(thing=thing):
                self.assertRaises(NoAmount, read_cents, thing)

    def test_short_texts_of_all_signs_that_matter(self):
        signs = "019. -\n"
        texts = [""]
        for length in range(5):
            texts = [text + sign for text in texts for sign in signs]
            for text in texts:
                right = length >= 3 and text[-3] == "." and (text[:-3] + text[-2:]).isdigit()
                right = right and (len(text[:-3]) == 1 or text[0] != "0")
                if right:
                    self.assertEqual(show_cents(read_cents(text)), text)
                else:
                    self.assertRaises(NoAmount, read_cents, text)


if __name__ == "__main__":
    unittest.main()
