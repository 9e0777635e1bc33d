"""Stacks: the settled losses of an event, of which money is taken back from the top."""


def taken_from(stack, cents):
    pieces = []
    wanted = cents
    for number, left in reversed(stack):
        taken = min(left, wanted)
        if taken > 0:
            pieces.append((number, left - taken, left))
        wanted = wanted - taken
    return (pieces, wanted)
