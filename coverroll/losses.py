"""A loss and the kinds of things that it is made of."""

from coverroll.cents import is_whole
from coverroll.errors import NoEntry

LETTERS = "abcdefghijklmnopqrstuvwxyz"
LONGEST_NAME = 8
MOST_NAMES = 4
LAST_NUMBER = 1000000000
LAST_DAY = 1000000
DAYS_OF_YEAR = 365
MOST_CENTS = 999999999999

# Where each of the six things stands in the tuple of a loss.
NUMBER = 0
DAY = 1
EVENT = 2
THING = 3
CAUSE = 4
CENTS = 5


# islower and isalpha would let letters beyond a to z by.
def has_letters_alone(text):
    for sign in text:
        if sign not in LETTERS:
            return False
    return True


def is_name(thing):
    if not isinstance(thing, str):
        return False
    return 1 <= len(thing) <= LONGEST_NAME and has_letters_alone(thing)


def is_event(thing):
    if not isinstance(thing, str):
        return False
    names = thing.split(".")
    if len(names) > MOST_NAMES:
        return False
    for name in names:
        if not is_name(name):
            return False
    return True


def is_number(thing):
    return is_whole(thing) and 0 <= thing <= LAST_NUMBER


def is_day(thing):
    return is_whole(thing) and 0 <= thing <= LAST_DAY


def is_amount(thing):
    return is_whole(thing) and 0 <= thing <= MOST_CENTS


def year_of(day):
    return day // DAYS_OF_YEAR


def loss_of(number, day, event, thing, cause, cents):
    if not is_number(number):
        raise NoEntry("the number of a loss is a whole number from 0 to 10**9")
    if not is_day(day):
        raise NoEntry("the day of a loss is a whole number from 0 to 10**6")
    if not is_event(event):
        raise NoEntry("the event of a loss is one to four names with one point between each two")
    if not is_name(thing) or not is_name(cause):
        raise NoEntry("thing and cause of a loss are names of one to eight small letters")
    if not is_amount(cents) or cents < 1:
        raise NoEntry("the cents of a loss are a whole number from 1 to 10**12 - 1")
    return (number, day, event, thing, cause, cents)
