"""Who bears a loss in the end, behind all rows of a tower, and the way of a single cent."""

from coverroll.losses import NUMBER
from coverroll.shares import add_to
from coverroll.towers import by_house


# Who holds a loss bears what no cover of its row pays.
def holder_of(tower, r, number):
    if r == 0:
        return ""
    return tower.origin(r, number)[1]


def kept_of(rows):
    return sum([cents for house, name, k, cents in rows if house == ""])


def ends_of(tower, numbers):
    ends = {}
    due = numbers
    for r in range(tower.size()):
        later = []
        for number in due:
            rows = tower.bears(r, number)
            add_to(ends, (r, holder_of(tower, r, number)), kept_of(rows))
            for house, cents in by_house(rows):
                if r + 1 < tower.size():
                    later.append(tower.made_of(r, number, house))
                else:
                    add_to(ends, (r + 1, house), cents)
        due = later
    return [(r, who, ends[(r, who)]) for r, who in sorted(ends) if ends[(r, who)] > 0]


def final_of(tower, number):
    return ends_of(tower, [number])


def sheet_of(tower):
    return ends_of(tower, [loss[NUMBER] for loss in tower.losses(0)])


# A house's cents of a loss, from the ground up, are those of the loss that was
# made for it, so those below the cent number it there.
def cent_of_house(tower, r, number, cent, house):
    return dict(by_house(tower.bears(r, number, 0, cent))).get(house, 0)


def path_of(tower, number, cent):
    steps = []
    at = number
    place = cent
    for r in range(tower.size()):
        bearer = tower.bears(r, at, place, place + 1)[0]
        house = bearer[0]
        steps.append((r, at, place, house, bearer[1], bearer[2]))
        if house == "" or r + 1 == tower.size():
            break
        place = cent_of_house(tower, r, at, place, house)
        at = tower.made_of(r, at, house)
    return steps
