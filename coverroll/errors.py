"""The refusals: all of them stand under CoverError, none under another one."""


class CoverError(ValueError):
    pass


class NoAmount(CoverError):
    pass


class NoShares(CoverError):
    pass


class NoEntry(CoverError):
    pass


# Python itself keeps what an error is made with as its words, so the four
# that are made with one thing only have to keep that thing under its name.
class NoWords(CoverError):
    def __init__(self, at):
        self.at = at


class TooDeep(CoverError):
    pass


class NoClause(CoverError):
    pass


class NoCover(CoverError):
    pass


class NoBook(CoverError):
    pass


class Twice(CoverError):
    def __init__(self, number):
        self.number = number


class Late(CoverError):
    def __init__(self, day):
        self.day = day


class NotTold(CoverError):
    pass


class TooWide(CoverError):
    pass


class NoText(CoverError):
    def __init__(self, at):
        self.at = at


class NoRow(CoverError):
    pass
