"""[21]: where conditions hold. [22]: words and rank. [24]: marks. [3]: what stays."""

import itertools
import unittest

from coverroll.conditions import All, CauseIs, Condition, DaysIn, Not, Over, Some, ThingIs

YES, NO = Condition(), Not(Condition())
A, B, C = CauseIs("a"), CauseIs("b"), ThingIs("c")


def loss(day=400, thing="roof", cause="hail", cents=12345, number=7, event="storm.acme"):
    return (number, day, event, thing, cause, cents)


LOSSES = [
    loss(day, thing, cause, cents)
    for day in (0, 9, 10, 20, 21, 10**6)
    for thing in ("roof", "hail", "a")
    for cause in ("roof", "hail", "a")
    for cents in (1, 100, 101, 10**12 - 1)
]


class TestHolds(unittest.TestCase):
    def holds(self, condition, one, answer):
        self.assertIs(condition.holds(one), answer, (condition.words(), one))

    def test_always(self):
        for one in LOSSES:
            self.holds(Condition(), one, True)

    def test_cause_and_thing(self):
        near = ("hails", "hai", "ail", "bail", "haim", "hale", "h", "ha", "haill", "liah", "a", "and", "self")
        self.holds(CauseIs("hail"), loss(cause="hail"), True)
        self.holds(ThingIs("hail"), loss(thing="hail", cause="fire"), True)
        for name in near:
            self.holds(CauseIs("hail"), loss(cause=name), False)
            self.holds(CauseIs(name), loss(cause="hail"), False)
            self.holds(CauseIs(name), loss(cause=name), True)
            self.holds(ThingIs("hail"), loss(thing=name), False)
            self.holds(ThingIs(name), loss(thing="hail"), False)
            self.holds(ThingIs(name), loss(thing=name), True)

    def test_a_cause_that_is_the_thing_and_the_other_way_round(self):
        self.holds(CauseIs("roof"), loss(thing="roof", cause="hail"), False)
        self.holds(ThingIs("hail"), loss(thing="roof", cause="hail"), False)
        self.holds(CauseIs("storm"), loss(event="storm"), False)
        self.holds(ThingIs("storm"), loss(event="storm"), False)
        self.holds(CauseIs("roof"), loss(thing="roof", cause="roof"), True)
        self.holds(ThingIs("roof"), loss(thing="roof", cause="roof"), True)

    def test_days(self):
        for first, last in ((10, 20), (10, 11), (10, 10), (0, 0), (0, 364), (365, 729), (0, 10**6), (10**6, 10**6)):
            for day in {0, first - 1, first, first + 1, (first + last) // 2, last - 1, last, last + 1, 10**6}:
                if 0 <= day <= 10**6:
                    self.holds(DaysIn(first, last), loss(day=day), day in range(first, last + 1))

    def test_days_look_at_the_day_alone(self):
        self.holds(DaysIn(5, 9), loss(day=4, number=7, cents=7), False)
        self.holds(DaysIn(5, 9), loss(day=7, number=4, cents=4), True)

    def test_over(self):
        for amount in (0, 1, 99, 100, 12345, 10**12 - 2, 10**12 - 1):
            for cents in (amount - 1, amount, amount + 1):
                if 1 <= cents <= 10**12 - 1:
                    self.holds(Over(amount), loss(cents=cents), cents == amount + 1)
        self.holds(Over(0), loss(cents=10**12 - 1), True)
        self.holds(Over(100), loss(day=101, number=101, cents=100), False)

    def test_all_and_some_of_each_length_where_one_alone_decides(self):
        for length in range(2, 9):
            self.holds(All([YES] * length), loss(), True)
            self.holds(All([NO] * length), loss(), False)
            self.holds(Some([YES] * length), loss(), True)
            self.holds(Some([NO] * length), loss(), False)
            for place in range(length):
                with self.subTest(length=length, place=place):
                    self.holds(All([NO if k == place else YES for k in range(length)]), loss(), False)
                    self.holds(All([YES if k == place else NO for k in range(length)]), loss(), False)
                    self.holds(Some([NO if k == place else YES for k in range(length)]), loss(), True)
                    self.holds(Some([YES if k == place else NO for k in range(length)]), loss(), True)

    def test_all_and_some_ask_each_of_the_loss(self):
        parts = [CauseIs("hail"), ThingIs("roof"), DaysIn(10, 20), Over(100)]
        right = {"cause": "hail", "thing": "roof", "day": 10, "cents": 101}
        wrong = {"cause": "roof", "thing": "hail", "day": 21, "cents": 100}
        for picked in itertools.product((True, False), repeat=4):
            one = loss(**{name: right[name] if pick else wrong[name] for name, pick in zip(right, picked)})
            self.holds(All(parts), one, all(picked))
            self.holds(Some(parts), one, any(picked))
            self.holds(Not(All(parts)), one, not all(picked))
            self.holds(Not(Some(parts)), one, not any(picked))
            self.holds(Some([All(parts[:2]), All(parts[2:])]), one, all(picked[:2]) or all(picked[2:]))
            self.holds(All([Some(parts[:2]), Some(parts[2:])]), one, any(picked[:2]) and any(picked[2:]))

    def test_nots_within_nots(self):
        for inner in (YES, NO, CauseIs("hail"), CauseIs("fire"), All([YES, NO]), Some([NO, YES])):
            condition, answer = inner, inner.holds(loss())
            for depth in range(6):
                condition, answer = Not(condition), not answer
                self.holds(condition, loss(), answer)


class TestClasses(unittest.TestCase):
    def test_they_stand_under_condition_and_not_under_one_another(self):
        several = [CauseIs("a"), ThingIs("a"), DaysIn(0, 1), Over(0), Not(YES), All([A, B]), Some([A, B])]
        for one in several:
            self.assertIsInstance(one, Condition)
            for other in several:
                self.assertEqual(isinstance(one, other.__class__), one is other)
            self.assertNotIsInstance(Condition(), one.__class__)

    def test_values(self):
        self.assertEqual(CauseIs("hail").name, "hail")
        self.assertEqual(ThingIs("roof").name, "roof")
        self.assertEqual((DaysIn(3, 9).first, DaysIn(3, 9).last), (3, 9))
        self.assertEqual(Over(1250).cents, 1250)
        self.assertIs(Not(A).part, A)
        for kind in (All, Some):
            self.assertIsInstance(kind([A, B]).several, list)
            self.assertEqual(kind([A, B, A]).several, [A, B, A])


class TestWords(unittest.TestCase):
    def shows(self, condition, text, rank):
        self.assertEqual(condition.words(), text.split(" "))
        self.assertIsInstance(condition.words(), list)
        self.assertEqual(condition.rank(), rank, text)

    def test_those_without_parts(self):
        self.shows(Condition(), "always", 3)
        self.shows(CauseIs("hail"), "cause hail", 3)
        self.shows(CauseIs("and"), "cause and", 3)
        self.shows(ThingIs("roof"), "thing roof", 3)
        self.shows(DaysIn(0, 364), "days 0 364", 3)
        self.shows(DaysIn(7, 7), "days 7 7", 3)
        self.shows(DaysIn(365, 10**6), "days 365 1000000", 3)
        self.shows(Over(1250), "over 12.50", 3)
        self.shows(Over(0), "over 0.00", 3)
        self.shows(Over(5), "over 0.05", 3)
        self.shows(Over(10**12 - 1), "over 9999999999.99", 3)

    def test_all_and_some(self):
        self.shows(All([A, B]), "cause a and cause b", 2)
        self.shows(Some([A, B]), "cause a or cause b", 1)
        self.shows(All([A, B, C]), "cause a and cause b and thing c", 2)
        self.shows(Some([C, B, A]), "thing c or cause b or cause a", 1)
        self.shows(All([YES] * 8), " and ".join(["always"] * 8), 2)
        self.shows(Some([YES] * 8), " or ".join(["always"] * 8), 1)

    def test_within_a_not(self):
        self.shows(Not(Condition()), "not always", 3)
        self.shows(Not(DaysIn(1, 2)), "not days 1 2", 3)
        self.shows(Not(Over(1)), "not over 0.01", 3)
        self.shows(Not(C), "not thing c", 3)
        self.shows(Not(All([A, B])), "not ( cause a and cause b )", 3)
        self.shows(Not(Some([A, B])), "not ( cause a or cause b )", 3)
        self.shows(Not(Not(A)), "not not cause a", 3)
        self.shows(Not(Not(All([A, B]))), "not not ( cause a and cause b )", 3)

    def test_within_an_all(self):
        self.shows(All([All([A, B]), C]), "( cause a and cause b ) and thing c", 2)
        self.shows(All([A, All([B, C])]), "cause a and ( cause b and thing c )", 2)
        self.shows(All([Some([A, B]), C]), "( cause a or cause b ) and thing c", 2)
        self.shows(All([A, Some([B, C])]), "cause a and ( cause b or thing c )", 2)
        self.shows(All([Not(A), Not(B)]), "not cause a and not cause b", 2)
        self.shows(All([Not(All([A, B])), C]), "not ( cause a and cause b ) and thing c", 2)

    def test_within_a_some(self):
        self.shows(Some([A, All([B, C])]), "cause a or cause b and thing c", 1)
        self.shows(Some([All([A, B]), C]), "cause a and cause b or thing c", 1)
        self.shows(Some([Some([A, B]), C]), "( cause a or cause b ) or thing c", 1)
        self.shows(Some([A, Some([B, C])]), "cause a or ( cause b or thing c )", 1)
        self.shows(Some([Not(A), Not(B)]), "not cause a or not cause b", 1)
        self.shows(Some([Not(Some([A, B])), C]), "not ( cause a or cause b ) or thing c", 1)

    def test_brackets_within_brackets(self):
        inner = All([Some([A, B]), C])
        self.shows(Not(inner), "not ( ( cause a or cause b ) and thing c )", 3)
        self.shows(All([inner, inner]), " and ".join(["( ( cause a or cause b ) and thing c )"] * 2), 2)
        self.shows(Some([inner, inner]), " or ".join(["( cause a or cause b ) and thing c"] * 2), 1)


class TestMarks(unittest.TestCase):
    def marks(self, condition, several):
        self.assertEqual(condition.marks(), several)
        self.assertIsInstance(condition.marks(), list)
        self.assertTrue(all(isinstance(mark, tuple) for mark in condition.marks()))

    def test_of_each(self):
        self.marks(Condition(), [])
        self.marks(CauseIs("hail"), [("cause", "hail")])
        self.marks(ThingIs("roof"), [("thing", "roof")])
        self.marks(DaysIn(0, 364), [("day", 0), ("day", 365)])
        self.marks(DaysIn(9, 9), [("day", 9), ("day", 10)])
        self.marks(DaysIn(9, 10**6), [("day", 9), ("day", 10**6 + 1)])
        self.marks(Over(1250), [("cents", 1250)])
        self.marks(Over(0), [("cents", 0)])
        self.marks(Not(Condition()), [])
        self.marks(Not(DaysIn(1, 2)), [("day", 1), ("day", 3)])
        self.marks(Not(Not(A)), [("cause", "a")])

    def test_in_their_order_and_as_often_as_they_come(self):
        for kind in (All, Some):
            self.marks(kind([B, A, C]), [("cause", "b"), ("cause", "a"), ("thing", "c")])
            self.marks(kind([A, A]), [("cause", "a"), ("cause", "a")])
            self.marks(kind([A, YES, A, Not(A)]), [("cause", "a")] * 3)
            self.marks(kind([Condition(), Condition()]), [])
            self.marks(
                kind([Over(5), Not(Some([DaysIn(3, 4), A])), All([C, Over(5)])]),
                [("cents", 5), ("day", 3), ("day", 5), ("cause", "a"), ("thing", "c"), ("cents", 5)],
            )
            self.marks(kind([CauseIs("abcdefgh"[k]) for k in range(8)]), [("cause", name) for name in "abcdefgh"])

    def test_what_no_mark_parts_holds_of_both_or_of_neither(self):
        leaves = [CauseIs("roof"), ThingIs("a"), DaysIn(10, 20), Over(100)]
        several = list(leaves)
        for one, other in itertools.permutations(leaves, 2):
            several += [All([one, Not(other)]), Some([Not(one), other]), Not(All([one, other]))]
        for condition in several:
            for first, second in itertools.combinations(LOSSES, 2):
                if not any(self.parted(mark, first, second) for mark in condition.marks()):
                    self.assertEqual(condition.holds(first), condition.holds(second), condition.words())

    def parted(self, mark, first, second):
        sort, value = mark
        tells = {
            "cause": lambda one: one[4] == value,
            "thing": lambda one: one[3] == value,
            "day": lambda one: one[1] >= value,
            "cents": lambda one: one[5] > value,
        }[sort]
        return tells(first) != tells(second)


class TestWhatStays(unittest.TestCase):
    def answers(self, condition):
        holds = [condition.holds(one) for one in LOSSES]
        return (condition.words(), condition.rank(), condition.marks(), holds)

    def test_the_lists_handed_in_stay(self):
        for kind in (All, Some):
            several = [A, B, C]
            condition = kind(several)
            self.answers(condition)
            self.assertEqual(several, [A, B, C])

    def test_a_change_of_them_behind_the_call_changes_nothing(self):
        for kind in (All, Some):
            several = [CauseIs("hail"), ThingIs("roof")]
            condition = kind(several)
            first = self.answers(condition)
            several[0] = NO
            several.append(Over(0))
            self.assertEqual(self.answers(condition), first)
            several.clear()
            self.assertEqual(self.answers(condition), first)
            self.assertEqual(len(condition.several), 2)

    def test_a_change_of_a_told_list_changes_no_later_answer(self):
        leaves = [Condition(), A, C, DaysIn(1, 2), Over(3)]
        several = leaves + [Not(leaf) for leaf in leaves] + [kind([leaf, B]) for kind in (All, Some) for leaf in leaves]
        several += [Not(All([A, B])), All([Some([A, B]), C]), Some([All([A, B]), C])]
        for condition in several:
            first = self.answers(condition)
            for told in (condition.words(), condition.marks()):
                told.append("more")
                told[0] = "other"
                self.assertEqual(self.answers(condition), first)
                told.clear()
                self.assertEqual(self.answers(condition), first)


if __name__ == "__main__":
    unittest.main()
