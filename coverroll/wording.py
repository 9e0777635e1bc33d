"""Conditions read from a text of words, and shown as one."""

from coverroll.cents import read_cents, writes_whole
from coverroll.conditions import All, CauseIs, Condition, DaysIn, Not, Over, Some, ThingIs
from coverroll.errors import NoAmount, NoWords, TooDeep
from coverroll.losses import is_day, is_name

MOST_WORDS = 60
MOST_IN_ROW = 8
MOST_OPEN = 6
MOST_DAY_FIGURES = 7


def day_of(word):
    if not writes_whole(word, MOST_DAY_FIGURES):
        return None
    day = int(word)
    return day if is_day(day) else None


# Reads from the left and refuses at once, so that the first fault decides.
class Reader:
    def __init__(self, row):
        self.row = row
        self.place = 0
        self.depth = 0

    # The end of the text is told as a word without signs: that one can't stand
    # anywhere either, and is refused by the same number.
    def ahead(self):
        if self.place == len(self.row):
            return ""
        return self.row[self.place]

    def step(self):
        self.place = self.place + 1

    def read_rows(self):
        rows = [self.read_row()]
        while self.goes_on("or", len(rows)):
            rows.append(self.read_row())
        return rows[0] if len(rows) == 1 else Some(rows)

    def read_row(self):
        pieces = [self.read_piece()]
        while self.goes_on("and", len(pieces)):
            pieces.append(self.read_piece())
        return pieces[0] if len(pieces) == 1 else All(pieces)

    # Behind the eighth one it is the word behind the `and` or `or` that can't
    # stand; it is refused ahead of being read, as NoWords goes ahead of TooDeep.
    def goes_on(self, between, so_far):
        if self.ahead() != between:
            return False
        self.step()
        if so_far == MOST_IN_ROW:
            raise NoWords(self.place)
        return True

    def read_piece(self):
        word = self.ahead()
        if word == "not" or word == "(":
            return self.read_deeper(word)
        if word not in ("always", "cause", "thing", "days", "over"):
            raise NoWords(self.place)
        self.step()
        if word == "cause":
            return CauseIs(self.read_name())
        if word == "thing":
            return ThingIs(self.read_name())
        if word == "days":
            return self.read_days()
        if word == "over":
            return Over(self.read_amount())
        return Condition()

    def read_deeper(self, word):
        if self.depth == MOST_OPEN:
            raise TooDeep("at most six brackets and nots are open at once")
        self.depth = self.depth + 1
        self.step()
        condition = Not(self.read_piece()) if word == "not" else self.read_bracket()
        self.depth = self.depth - 1
        return condition

    def read_bracket(self):
        condition = self.read_rows()
        if self.ahead() != ")":
            raise NoWords(self.place)
        self.step()
        return condition

    def read_name(self):
        name = self.ahead()
        if not is_name(name):
            raise NoWords(self.place)
        self.step()
        return name

    def read_days(self):
        first = self.read_day(0)
        return DaysIn(first, self.read_day(first))

    def read_day(self, least):
        day = day_of(self.ahead())
        if day is None or day < least:
            raise NoWords(self.place)
        self.step()
        return day

    def read_amount(self):
        try:
            cents = read_cents(self.ahead())
        except NoAmount:
            raise NoWords(self.place) from None
        self.step()
        return cents


def read_condition(text):
    if not isinstance(text, str):
        raise NoWords(0)
    row = text.split(" ")
    if len(row) > MOST_WORDS:
        raise NoWords(MOST_WORDS)
    reader = Reader(row)
    condition = reader.read_rows()
    if reader.place < len(row):
        raise NoWords(reader.place)
    return condition


def show_condition(condition):
    return " ".join(condition.words())
