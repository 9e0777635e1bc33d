"""[25]: conditions read from a text. [26]: what tells none. [23]: how deep and long they may be."""

import itertools
import random
import re
import unittest

from coverroll.conditions import All, CauseIs, Condition, DaysIn, Not, Over, Some, ThingIs
from coverroll.errors import CoverError, NoWords, TooDeep
from coverroll.wording import read_condition, show_condition

# One loss for each way in which the four leaves below can hold or not.
LEAVES = (CauseIs("a"), ThingIs("and"), DaysIn(10, 20), Over(1250))
LOSSES = [
    (0, day, "e", thing, cause, cents)
    for cause in ("a", "b")
    for thing in ("and", "or")
    for day in (10, 21)
    for cents in (1251, 1250)
]


def form(condition):
    """A condition as nested tuples, to be compared."""
    if isinstance(condition, (All, Some)):
        return (condition.__class__.__name__, *[form(part) for part in condition.several])
    if isinstance(condition, Not):
        return ("Not", form(condition.part))
    return " ".join(condition.words())


def shapes(depth):
    """All conditions of ones, twos and nots, up to a depth, over leaves that are None."""
    if depth == 0:
        return [None]
    below = shapes(depth - 1)
    pairs = list(itertools.product(below, repeat=2))
    return [None] + [("Not", one) for one in below] + [(kind, *pair) for kind in ("All", "Some") for pair in pairs]


def built(shape, leaves):
    if shape is None:
        return next(leaves)
    parts = [built(part, leaves) for part in shape[1:]]
    if shape[0] == "Not":
        return Not(parts[0])
    return All(parts) if shape[0] == "All" else Some(parts)


def judged(text):
    """[26] again, word by word with a stack: None, "deep" or the number of the word that can't stand."""
    words = text.split(" ")
    if len(words) > 60:
        return 60
    rows, opened, want = [[1, 1]], [], "piece"
    for at, word in enumerate(words):
        follows = wanted_behind(want, word, words[at - 1], rows, opened)
        if follows in (None, "deep"):
            return at if follows is None else "deep"
        want = follows
    return None if want == "more" and len(rows) == 1 else len(words)


def wanted_behind(want, word, ahead, rows, opened):
    if want == "piece":
        if max(rows[-1]) > 8:
            return None
        if word in ("(", "not"):
            if len(opened) == 6:
                return "deep"
            opened.append(word)
            if word == "(":
                rows.append([1, 1])
            return "piece"
        if word == "always":
            return piece_ends(opened)
        return {"cause": "name", "thing": "name", "days": "first", "over": "amount"}.get(word)
    if want == "more":
        if word == "and":
            rows[-1][0] += 1
            return "piece"
        if word == "or":
            rows[-1] = [1, rows[-1][1] + 1]
            return "piece"
        if word == ")" and len(rows) > 1:
            rows.pop()
            opened.pop()
            return piece_ends(opened)
        return None
    if want == "name":
        return piece_ends(opened) if re.fullmatch("[a-z]{1,8}", word) else None
    if want == "amount":
        return piece_ends(opened) if re.fullmatch(r"(0|[1-9][0-9]{0,9})\.[0-9]{2}", word) else None
    if not re.fullmatch("0|[1-9][0-9]{0,5}|1000000", word):
        return None
    if want == "first":
        return "last"
    return piece_ends(opened) if int(word) >= int(ahead) else None


def piece_ends(opened):
    while opened and opened[-1] == "not":
        opened.pop()
    return "more"


def answered(text):
    try:
        read_condition(text)
    except NoWords as refusal:
        return refusal.at
    except TooDeep:
        return "deep"
    return None


def by_python(text, loss):
    """What Python's own and, or, not and brackets make of the text."""
    day, thing, cause, cents = loss[1], loss[3], loss[4], loss[5]
    told = text
    for pattern, truth in (
        (r"cause (\w+)", lambda found: cause == found[1]),
        (r"thing (\w+)", lambda found: thing == found[1]),
        (r"days (\d+) (\d+)", lambda found: int(found[1]) <= day <= int(found[2])),
        (r"over (\d+)\.(\d+)", lambda found: cents > int(found[1] + found[2])),
        (r"always", lambda found: True),
    ):
        told = re.sub(pattern, lambda found: str(truth(found)), told)
    return eval(told)


def row_of(length, word, piece="always"):
    return f" {word} ".join([piece] * length)


FIFTY_NINE = row_of(6, "or", row_of(5, "and"))


class TestRead(unittest.TestCase):
    def reads(self, text, told):
        self.assertEqual(form(read_condition(text)), told, text)

    def test_those_without_parts(self):
        self.assertIsInstance(read_condition("cause hail"), CauseIs)
        self.assertEqual(read_condition("cause hail").name, "hail")
        self.assertIsInstance(read_condition("thing roof"), ThingIs)
        self.assertEqual(read_condition("thing roof").name, "roof")
        days = read_condition("days 3 14")
        self.assertIsInstance(days, DaysIn)
        self.assertEqual((days.first, days.last), (3, 14))
        self.assertIsInstance(read_condition("over 12.50"), Over)
        self.assertEqual(read_condition("over 12.50").cents, 1250)
        self.assertIsInstance(read_condition("always"), Condition)
        self.assertEqual(read_condition("always").words(), ["always"])

    def test_and_ahead_of_or(self):
        self.reads("cause a or cause b and thing c", ("Some", "cause a", ("All", "cause b", "thing c")))
        self.reads("cause a and cause b or thing c", ("Some", ("All", "cause a", "cause b"), "thing c"))
        self.reads(
            "cause a and cause b or always or cause c and cause d and always",
            ("Some", ("All", "cause a", "cause b"), "always", ("All", "cause c", "cause d", "always")),
        )

    def test_not_takes_the_one_piece_behind_it(self):
        self.reads("not cause a and cause b", ("All", ("Not", "cause a"), "cause b"))
        self.reads("not cause a or cause b", ("Some", ("Not", "cause a"), "cause b"))
        self.reads("not not days 1 2 and not always", ("All", ("Not", ("Not", "days 1 2")), ("Not", "always")))
        self.reads("not ( cause a or cause b ) and always", ("All", ("Not", ("Some", "cause a", "cause b")), "always"))

    def test_brackets_that_are_not_needed(self):
        self.reads("( always )", "always")
        self.reads("( ( ( cause a ) ) )", "cause a")
        self.reads("( cause a ) and ( cause b )", ("All", "cause a", "cause b"))
        self.reads("( cause a and cause b )", ("All", "cause a", "cause b"))
        self.reads("( cause a and cause b ) or cause c", ("Some", ("All", "cause a", "cause b"), "cause c"))
        self.reads("not ( cause a )", ("Not", "cause a"))
        self.reads("( not cause a ) and always", ("All", ("Not", "cause a"), "always"))

    def test_rows_of_three_beside_brackets(self):
        self.reads("cause a and cause b and cause c", ("All", "cause a", "cause b", "cause c"))
        self.reads("( cause a and cause b ) and cause c", ("All", ("All", "cause a", "cause b"), "cause c"))
        self.reads("cause a and ( cause b and cause c )", ("All", "cause a", ("All", "cause b", "cause c")))
        self.reads("cause a or cause b or cause c", ("Some", "cause a", "cause b", "cause c"))
        self.reads("( cause a or cause b ) or cause c", ("Some", ("Some", "cause a", "cause b"), "cause c"))
        self.reads("( cause a or cause b ) and cause c", ("All", ("Some", "cause a", "cause b"), "cause c"))

    def test_names_that_are_words_of_the_language(self):
        for name in ("and", "or", "not", "always", "cause", "thing", "days", "over", "self", "a", "abcdefgh"):
            self.reads("cause " + name, "cause " + name)
            self.reads("thing " + name, "thing " + name)
            self.reads(f"cause {name} and thing {name}", ("All", "cause " + name, "thing " + name))
            self.reads(f"not cause {name} or ( thing {name} )", ("Some", ("Not", "cause " + name), "thing " + name))

    def test_days(self):
        for first, last in ((0, 0), (0, 1), (9, 10), (0, 10**6), (10**6, 10**6), (99999, 100000), (364, 365)):
            self.reads(f"days {first} {last}", f"days {first} {last}")

    def test_amounts(self):
        for amount in ("0.00", "0.05", "12.50", "9999999999.99"):
            self.reads("over " + amount, "over " + amount)

    def test_one_to_eight_pieces_and_rows(self):
        for length in range(2, 9):
            self.reads(row_of(length, "and"), ("All", *["always"] * length))
            self.reads(row_of(length, "or"), ("Some", *["always"] * length))
            self.reads(f"( {row_of(length, 'and')} ) and always", ("All", ("All", *["always"] * length), "always"))
        rows = " or ".join([row_of(8, "and"), "cause a"])
        self.reads(rows, ("Some", ("All", *["always"] * 8), "cause a"))

    def test_each_row_and_bracket_counts_for_itself(self):
        eight = f"( {row_of(8, 'and')} )"
        self.assertEqual(len(row_of(3, "or", eight).split(" ")), 53)
        self.reads(row_of(3, "or", eight), ("Some", *[("All", *["always"] * 8)] * 3))
        self.reads(row_of(3, "or", row_of(8, "and")), ("Some", *[("All", *["always"] * 8)] * 3))
        self.reads(row_of(3, "and", f"( {row_of(8, 'or')} )"), ("All", *[("Some", *["always"] * 8)] * 3))

    def test_sixty_words(self):
        for sixty in ("not " + FIFTY_NINE, FIFTY_NINE[:-len("always")] + "cause a"):
            self.assertEqual(len(sixty.split(" ")), 60)
            self.assertEqual(read_condition(sixty).words(), sixty.split(" "))

    def test_six_open(self):
        for opening in itertools.product(("not", "("), repeat=6):
            text = " ".join(list(opening) + ["always"] + [")"] * opening.count("("))
            self.reads(text + " or cause a", ("Some", self.nots(opening.count("not")), "cause a"))

    def nots(self, many):
        return ("Not", self.nots(many - 1)) if many else "always"

    def test_what_was_closed_is_not_open(self):
        six = "not ( not ( not ( always ) ) )"
        self.reads(f"{six} and {six}", ("All", self.nots(3), self.nots(3)))
        self.reads(row_of(3, "or", "not not not not not not always"), ("Some", *[self.nots(6)] * 3))
        self.reads("( ( ( ( ( not cause a and not cause b ) ) ) ) )", ("All", ("Not", "cause a"), ("Not", "cause b")))


class TestShownAndRead(unittest.TestCase):
    def same(self, condition):
        again = read_condition(show_condition(condition))
        self.assertEqual(again.words(), condition.words())
        self.assertEqual(form(again), form(condition))
        self.assertEqual([again.holds(loss) for loss in LOSSES], [condition.holds(loss) for loss in LOSSES])

    def test_show(self):
        self.assertEqual(show_condition(Condition()), "always")
        self.assertEqual(show_condition(Not(All([CauseIs("a"), Over(1)]))), "not ( cause a and over 0.01 )")

    def test_each_shape(self):
        for shape in shapes(3):
            self.same(built(shape, itertools.cycle(LEAVES)))

    def test_rows_of_eight(self):
        eight = list(itertools.islice(itertools.cycle(LEAVES), 8))
        short = [Condition()] * 8
        for condition in (All(eight), Some(eight), Not(All(eight)), Some([All(eight), Not(Some(short))])):
            self.same(condition)

    def test_they_hold_as_python_has_it(self):
        for shape in shapes(3):
            text = show_condition(built(shape, itertools.cycle(LEAVES)))
            condition = read_condition(text)
            for loss in LOSSES:
                self.assertEqual(condition.holds(loss), by_python(text, loss), (text, loss))

    def test_rows_without_brackets_hold_as_python_has_it(self):
        pieces = [prefix + show_condition(leaf) for leaf in LEAVES for prefix in ("", "not ")]
        chooser = random.Random(5)
        for words in itertools.product(("and", "or"), repeat=4):
            for turn in range(10):
                row = [chooser.choice(pieces) for k in range(5)]
                text = row[0] + "".join(f" {word} {piece}" for word, piece in zip(words, row[1:]))
                for loss in LOSSES:
                    self.assertEqual(read_condition(text).holds(loss), by_python(text, loss), (text, loss))


class TestRefused(unittest.TestCase):
    def refused(self, text, at):
        self.assertEqual(answered(text), at, text)
        self.assertRaises(CoverError, read_condition, text)

    def test_no_text(self):
        for thing in (None, True, False, 0, 5, 1.5, b"always", ["always"], [], ("always",), {}, object(), Condition()):
            with self.subTest(thing=thing):
                self.refused(thing, 0)

    def test_more_than_sixty_words(self):
        sixty = "not " + FIFTY_NINE
        self.assertIsNone(answered(sixty))
        self.refused("not " + sixty, 60)
        self.refused(sixty + " wrong", 60)
        self.refused(sixty + " and always", 60)
        self.refused("wrong " + sixty, 60)
        self.refused("cause 1 " + sixty, 60)
        self.refused("wrong " * 60 + "wrong", 60)
        self.refused(" " * 60, 60)
        self.refused(" " * 2999, 60)
        self.refused(" ".join(["("] * 61), 60)
        self.refused(" ".join(["not"] * 61), 60)
        self.refused(row_of(31, "and"), 60)
        self.refused(row_of(8, "or", row_of(8, "and")), 60)

    def test_sixty_words_are_refused_where_it_is_due(self):
        self.refused(" ".join(["wrong"] * 60), 0)
        self.refused(" " * 59, 0)
        self.refused(" ".join(["not"] * 60), "deep")
        self.refused("always " + " ".join(["wrong"] * 59), 1)
        self.refused(FIFTY_NINE + " wrong", 59)
        self.refused(FIFTY_NINE + " or", 60)

    def test_a_word_that_cannot_stand_there(self):
        piece_wanted = ("", "and", "or", ")", "a", "hail", "0", "12.50", "Always", "always\n", "if", "causes", "(always")
        for word in piece_wanted:
            for ahead in ("", "not ", "( ", "always and ", "always or ", "( cause a or ", "not ( always and ", "not not "):
                self.refused(ahead + word, len(ahead.split(" ")) - 1)
                self.refused(ahead + word + " always", len(ahead.split(" ")) - 1)
        more_wanted = ("", "always", "cause", "thing", "days", "over", "not", "(", "a", "0", "1.00", "And", "xor", "AND")
        for ahead in ("always", "cause a", "thing or", "days 1 2", "over 0.05", "not always", "( always )", "( always"):
            for word in more_wanted:
                self.refused(ahead + " " + word, len(ahead.split(" ")))
                self.refused(ahead + " and not " + ahead + " " + word, 2 + 2 * len(ahead.split(" ")))
                self.refused(ahead + " or " + ahead + " " + word + " always", 1 + 2 * len(ahead.split(" ")))

    def test_a_bracket_that_was_not_opened(self):
        self.refused("always )", 1)
        self.refused("( always ) )", 3)
        self.refused("cause a and cause b )", 5)
        self.refused("not always ) and always", 2)
        self.refused("( )", 1)
        self.refused("not )", 1)

    def test_no_name(self):
        for word in ("", "A", "a1", "1", "(", ")", "abcdefghi", "a.b", "12.50", "a\n", "-"):
            for kind in ("cause", "thing"):
                self.refused(f"{kind} {word}", 1)
                self.refused(f"{kind} {word} and always", 1)
                self.refused(f"not ( always or {kind} {word} )", 5)

    def test_no_day(self):
        wrong = (
            "", "a", "-1", "+1", "00", "01", "07", "007", "000000", "0000001", "1000001", "1000010", "9999999",
            "10000000", "00000000", "12345678", "99999999999999", "1.0", "1.00", "1_0", "and", "(", "\u0661", "1\n",
        )
        for word in wrong:
            self.refused(f"days {word} 5", 1)
            self.refused(f"days {word} 1000000", 1)
            self.refused(f"days 0 {word}", 2)
            self.refused(f"always and days 0 {word} and always", 4)

    def test_a_second_day_that_is_less(self):
        for first, last in ((1, 0), (10, 9), (365, 364), (10**6, 0), (10**6, 10**6 - 1), (10, 2), (100, 99)):
            self.refused(f"days {first} {last}", 2)
            self.refused(f"( days {first} {last} )", 3)
            self.refused(f"days {first} {last} always", 2)

    def test_no_amount(self):
        for word in ("", "5", "1.0", "01.00", "1.000", "-1.00", ".50", "10000000000.00", "a", "and", "(", "1,00"):
            self.refused(f"over {word}", 1)
            self.refused(f"over {word} or always", 1)
            self.refused(f"not over {word}", 2)

    def test_the_text_ends_too_early(self):
        wholes = (
            "cause a", "thing b", "days 1 2", "over 1.00", "not always", "not not cause a", "( always )",
            "not ( cause a and days 3 4 or ( not over 1.00 ) )", "always and always", "always or ( always )",
            "( ( ( ( ( ( always ) ) ) ) ) )", "cause a or cause b and thing c",
        )
        for whole in wholes:
            words = whole.split(" ")
            self.assertIsNone(answered(whole))
            for length in range(1, len(words)):
                text = " ".join(words[:length])
                if text not in ("always", "cause a", "cause a or cause b"):
                    self.refused(text, length)

    def test_no_signs_and_blanks_too_many(self):
        self.refused("", 0)
        self.refused(" ", 0)
        self.refused("  ", 0)
        self.refused(" always", 0)
        self.refused("always ", 1)
        self.refused("cause  a", 1)
        self.refused("cause a ", 2)
        self.refused("cause a  and cause b", 2)
        self.refused("cause a and  cause b", 3)
        self.refused("days 1  2", 2)
        self.refused("over  1.00", 1)
        self.refused("not  always", 1)
        self.refused("(  always )", 1)
        self.refused("( always  )", 2)

    def test_behind_the_eighth(self):
        words = ("always", "cause", "thing", "days", "over", "not", "(", ")", "and", "or", "", "x", "wrong words")
        for between in ("and", "or"):
            eight = row_of(8, between)
            self.assertIsNone(answered(eight))
            self.refused(f"{eight} {between}", 16)
            self.refused(f"( {eight} {between}", 17)
            for word in words:
                self.refused(f"{eight} {between} {word}", 16)
                self.refused(f"{eight} {between} {word} a", 16)
                self.refused(f"( {eight} {between} {word}", 17)
                self.refused(f"cause a or ( {eight} {between} {word} )", 20)
            self.refused(f"{eight} wrong", 15)
            self.refused(f"{eight} )", 15)
        self.refused(row_of(9, "and"), 16)
        self.refused(row_of(9, "or"), 16)
        self.refused("always or " + row_of(9, "and"), 18)
        self.refused(row_of(7, "or") + " or " + row_of(2, "and") + " or always", 18)
        self.refused(row_of(8, "or") + " and always and always or always", 20)
        self.refused(row_of(8, "and") + " or " + row_of(8, "or"), 30)

    def test_too_deep(self):
        for opening in itertools.product(("not", "("), repeat=6):
            for seventh in ("not", "("):
                self.refused(" ".join(opening + (seventh,)), "deep")
                self.refused(" ".join(opening + (seventh, "wrong")), "deep")
                self.refused(" ".join(opening + (seventh, "always")), "deep")
                self.refused(" ".join(opening + ("wrong", seventh)), 6)
        self.refused("( ( ( ( ( ( always and not always", "deep")
        self.refused("( ( ( ( ( ( always or ( always", "deep")
        self.refused("( ( ( ( ( not ( always", "deep")
        self.refused("not ( not ( not ( cause a and not cause b ) ) )", "deep")

    def test_no_words_goes_ahead_of_too_deep_at_one_word(self):
        six = "( ( ( ( ( ( "
        for between in ("and", "or"):
            for word in ("(", "not"):
                self.refused(f"{six}{row_of(8, between)} {between} {word}", 22)
                self.refused(f"{six}{row_of(7, between)} {between} {word}", "deep")
        self.refused(six + "always (", 7)
        self.refused(six + "always not", 7)
        self.refused("not not not not not not always (", 7)

    def test_the_first_fault_from_the_left_decides(self):
        self.refused("wrong ( ( ( ( ( ( (", 0)
        self.refused("( ( ( ( ( ( ( wrong", "deep")
        self.refused("( ( ( ( ( wrong ( ( (", 5)
        self.refused("cause 1 and days 5 4", 1)
        self.refused("days 5 4 and cause 1", 2)
        self.refused(row_of(9, "and") + " ( ( ( ( ( ( (", 16)
        self.refused("( ( ( ( ( ( ( " + row_of(9, "and"), "deep")

    def test_a_refusal_stays_alone(self):
        for text in ("( ( always", "( ( ( ( ( ( (", "always and"):
            self.assertRaises(CoverError, read_condition, text)
            self.assertEqual(form(read_condition("( ( ( ( ( ( always ) ) ) ) ) )")), "always")


class TestAllTexts(unittest.TestCase):
    def test_each_row_of_few_words(self):
        words = ("always", "cause", "days", "not", "and", "or", "(", ")", "1", "0")
        for length in range(1, 6):
            for row in itertools.product(words, repeat=length):
                text = " ".join(row)
                self.assertEqual(answered(text), judged(text), text)

    def test_one_word_changed_put_in_or_left_out(self):
        words = ("always", "cause", "thing", "days", "over", "not", "and", "or", "(", ")", "1", "0", "1.00", "a", "", "A")
        wholes = (
            "not ( cause a or not thing b ) and days 0 364 or over 12.50",
            "( ( ( ( ( not cause a ) ) ) ) ) or not ( not ( not ( always ) ) )",
            row_of(8, "and") + " or " + row_of(7, "or"),
            "not ( " + row_of(8, "or") + " ) and ( " + row_of(8, "and") + " )",
            row_of(6, "or", row_of(5, "and")),
            "( ( ( ( ( ( " + row_of(8, "and") + " ) ) ) ) ) )",
        )
        for whole in wholes:
            row = whole.split(" ")
            self.assertIsNone(judged(whole))
            for place in range(len(row) + 1):
                for word in words:
                    self.like(row[:place] + [word] + row[place + 1:])
                    self.like(row[:place] + [word] + row[place:])
                self.like(row[:place] + row[place + 1:])
                self.like(row[:place])

    def like(self, row):
        text = " ".join(row)
        self.assertEqual(answered(text), judged(text), text)


if __name__ == "__main__":
    unittest.main()
