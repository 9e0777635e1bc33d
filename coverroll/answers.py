"""Answers: what the desk tells, as texts."""

from coverroll.cents import show_cents

NOTHING = "nothing"


def shown(texts):
    return "; ".join(texts) if texts else NOTHING


def show_stretch(lo, hi):
    return show_cents(lo) + "-" + show_cents(hi)


# What bears cents that no cover pays.
def show_clause(name, k):
    return name + " " + str(k) if name != "" else "none"


def show_strip(lo, hi, name, k):
    bears = name + " paid" if k == -1 else show_clause(name, k)
    return show_stretch(lo, hi) + " " + bears


def show_strips(strips):
    return shown([show_strip(lo, hi, name, k) for lo, hi, name, k in strips])


def show_who(house, name, k):
    return house + " " + name if house != "" else "- " + show_clause(name, k)


def show_bearers(rows):
    return shown([show_who(house, name, k) + " " + show_cents(cents) for house, name, k, cents in rows])


def show_pieces(pieces):
    return shown([str(number) + " " + show_stretch(lo, hi) for number, lo, hi in pieces])


def or_dash(text):
    return text if text != "" else "-"


def show_ends(rows):
    return shown([" ".join([str(r), or_dash(who), show_cents(cents)]) for r, who, cents in rows])


def show_path(steps):
    texts = []
    for r, number, cent, house, name, k in steps:
        texts.append(" ".join([str(r), str(number), str(cent), show_who(house, name, k)]))
    return shown(texts)


def show_fault(fault):
    if fault is None:
        return NOTHING
    cell = fault[3]
    words = [fault[1], show_cents(fault[0]), str(fault[2])]
    return " ".join(words + [or_dash(cell[0]), or_dash(cell[1]), str(cell[2]), str(cell[3])])
