"""Checks: whether rows that others made are right, and are a paper of a book."""

from coverroll.cells import ANY_OTHER, loss_in, marks_of
from coverroll.counts import Counts
from coverroll.losses import LAST_DAY, MOST_CENTS
from coverroll.papers import claims_of, is_bound
from coverroll.settling import strips_of


def is_cell(marks, cell):
    if cell[0] != ANY_OTHER and cell[0] not in marks[0]:
        return False
    if cell[1] != ANY_OTHER and cell[1] not in marks[1]:
        return False
    return 0 <= cell[2] <= cell[3] <= LAST_DAY and not any([cell[2] < day <= cell[3] for day in marks[2]])


def is_stretch(marks, lo, hi):
    return 1 <= lo <= hi <= MOST_CENTS and not any([lo <= amount < hi for amount in marks[3]])


def are_end_to_end(pairs, begin, end):
    at = begin
    for lo, hi in pairs:
        if lo != at or hi <= lo:
            return False
        at = hi
    return at == end


def put_together(strips):
    told = []
    for lo, hi, name, k in strips:
        if told and told[-1][2] == name and told[-1][3] == k:
            lo = told.pop()[0]
        told.append((lo, hi, name, k))
    return told


def is_row(book, row):
    marks = marks_of(book)
    cell = row[0]
    hi = row[2]
    if not is_cell(marks, cell) or not is_stretch(marks, row[1], hi):
        return False
    if not are_end_to_end([(strip[0], strip[1]) for strip in row[3]], 0, hi):
        return False
    loss = loss_in(book, cell, hi)
    if put_together(row[3]) != strips_of(book, Counts(), loss):
        return False
    return sorted(row[4]) == sorted(claims_of(book, loss))


# The rows of one cause and thing are rectangles, of days and of amounts. Between
# two neighbouring days at which one of them begins or ends the same ones lie, so
# it is enough that their amounts are end to end at each of these.
def fill_all(rows, bound):
    days = [0] + [row[0][2] for row in rows] + [row[0][3] + 1 for row in rows]
    for day in sorted(set(days)):
        stretches = sorted([(row[1], row[2] + 1) for row in rows if row[0][2] <= day <= row[0][3]])
        if day <= LAST_DAY and not are_end_to_end(stretches, 1, bound + 1):
            return False
    return True


def by_names(rows):
    groups = {}
    for row in rows:
        groups.setdefault((row[0][0], row[0][1]), []).append(row)
    return groups


def is_paper(book, bound, rows):
    if not is_bound(bound) or not all([is_row(book, row) for row in rows]):
        return False
    marks = marks_of(book)
    groups = by_names(rows)
    if len(groups) != (len(marks[0]) + 1) * (len(marks[1]) + 1):
        return False
    return all([fill_all(group, bound) for group in groups.values()])
