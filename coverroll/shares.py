"""Shares: which houses carry what a cover pays, and who bears the cents of a loss."""

from coverroll.covers import COVERED_ONE


def dealt_to(cover, base, lo, hi):
    shares = cover.deal.between(base + lo, base + hi)
    return [(house, cents) for house, cents in zip(cover.houses, shares) if cents > 0]


# What the cover carries as `self` is borne as if by one clause more.
def bearer_of(cover, house):
    if house == COVERED_ONE:
        return ("", cover.name, len(cover.clauses))
    return (house, cover.name, -1)


def add_to(kept, key, cents):
    kept[key] = kept.get(key, 0) + cents


# Strips below lo are walked too: what the cover pays of them is numbered ahead of
# what it pays above.
def borne_by(book, strips, bases, lo, hi):
    borne = {}
    numbers = dict(bases)
    for begin, end, name, k in strips:
        first = max(begin, lo)
        upto = max(first, min(end, hi))
        if k == -1:
            cover = book.named(name)
            for house, cents in dealt_to(cover, numbers.get(name, 0), first - begin, upto - begin):
                add_to(borne, bearer_of(cover, house), cents)
            add_to(numbers, name, end - begin)
        elif first < upto:
            add_to(borne, ("", name, k), upto - first)
    return [(house, name, k, borne[(house, name, k)]) for house, name, k in sorted(borne)]
