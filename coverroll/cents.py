"""Whole numbers, and amounts of cents as they are written and read."""

from coverroll.errors import NoAmount

FIGURES = "0123456789"
MOST_WHOLE_FIGURES = 10


# Python counts True and False among the ints; here they are no numbers.
def is_whole(thing):
    return isinstance(thing, int) and not isinstance(thing, bool)


# isdigit would let figures of other scripts by.
def has_figures_alone(text):
    for sign in text:
        if sign not in FIGURES:
            return False
    return True


# A nought ahead would give one number a second way to be written.
def writes_whole(text, most_figures):
    if len(text) < 1 or len(text) > most_figures:
        return False
    if text[0] == "0" and len(text) > 1:
        return False
    return has_figures_alone(text)


def is_cents_part(text):
    return len(text) == 2 and has_figures_alone(text)


def read_cents(text):
    if not isinstance(text, str):
        raise NoAmount("an amount is written as a text")
    pieces = text.split(".")
    if len(pieces) != 2 or not is_cents_part(pieces[1]) or not writes_whole(pieces[0], MOST_WHOLE_FIGURES):
        raise NoAmount("an amount is a whole part, a point and two figures")
    return int(pieces[0]) * 100 + int(pieces[1])


def show_cents(cents):
    whole = cents // 100
    rest = str(cents % 100).zfill(2)
    return f"{whole}.{rest}"
