"""Counts: what was counted so far, for each cover, clause and key."""


class Counts:
    def __init__(self):
        self.kept = {}

    def have(self, name, k, key):
        return self.kept.get((name, k, key), 0)

    def add(self, name, k, key, cents):
        self.kept[(name, k, key)] = self.have(name, k, key) + cents

    def copied(self):
        other = Counts()
        other.kept = dict(self.kept)
        return other
