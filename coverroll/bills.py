"""Tallies: what strips come to, by who pays and by the clauses that are borne."""

from coverroll.losses import DAY, NUMBER


def tally(strips):
    paid = {}
    borne = {}
    for lo, hi, name, k in strips:
        if k == -1:
            paid[name] = paid.get(name, 0) + hi - lo
        else:
            borne[(name, k)] = borne.get((name, k), 0) + hi - lo
    payers = [(name, paid[name]) for name in sorted(paid)]
    clauses = [(name, k, borne[(name, k)]) for name, k in sorted(borne)]
    return (payers, clauses)


def bill(roll, first, last):
    strips = []
    for loss in roll.settled():
        if first <= loss[DAY] <= last:
            strips.extend(roll.told(loss[NUMBER]))
    return tally(strips)
