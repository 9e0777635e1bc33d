"""Run lists: whole numbers told as stretches (lo, hi), rising and apart."""


def cut_within(runs, lo, hi):
    cut = [(max(run[0], lo), min(run[1], hi)) for run in runs]
    return [run for run in cut if run[0] < run[1]]


def lowest_of(runs, n):
    if n is None:
        return list(runs)
    kept = []
    left = n
    for lo, hi in runs:
        if left > 0:
            kept.append((lo, min(hi, lo + left)))
        left = left - (hi - lo)
    return kept


def left_of_run(run, others):
    left = []
    begin = run[0]
    for lo, hi in others:
        end = min(lo, run[1])
        if begin < end:
            left.append((begin, end))
        begin = max(begin, hi)
    if begin < run[1]:
        left.append((begin, run[1]))
    return left


def cut_out(runs, others):
    left = []
    for run in runs:
        left.extend(left_of_run(run, others))
    return left


def count_of(runs):
    return sum([hi - lo for lo, hi in runs])


def join_runs(pairs):
    joined = []
    for lo, hi in sorted(pairs):
        if joined and lo <= joined[-1][1]:
            last = joined.pop()
            joined.append((last[0], max(last[1], hi)))
        elif lo < hi:
            joined.append((lo, hi))
    return joined
