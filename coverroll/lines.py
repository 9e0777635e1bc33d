"""Lines: what a cover pays of the losses of a row, as straight lines over their cents."""


def line_of(a, p, slope):
    return lambda x: p + slope * (x - a)


def pay_lines(row, name):
    lines = []
    paid = 0
    for begin, end, payer, k in row[3]:
        slope = 1 if payer == name and k == -1 else 0
        if end >= row[1]:
            lines.append((max(begin + 1, row[1]), end, line_of(begin, paid, slope)))
        paid = paid + slope * (end - begin)
    return lines


# Halves the stretch each time, as it may be too long to be walked.
def least_where(a, b, test):
    if a > b or not test(b):
        return None
    lo = a
    hi = b
    while lo < hi:
        middle = (lo + hi) // 2
        if test(middle):
            hi = middle
        else:
            lo = middle + 1
    return lo


def paid_of(lines, x):
    for a, b, line in lines:
        if x <= b:
            return line(x)


# A greater loss of a row is never paid less of, so the halving finds the least.
def least_pay(row, name, want):
    lines = pay_lines(row, name)
    return least_where(row[1], row[2], lambda x: paid_of(lines, x) >= want)
