"""Rows that wait for the close of their day."""


class Days:
    def __init__(self):
        self.waiting = []
        self.numbers = {}

    def put(self, day, rank, number, row):
        self.waiting.append((day, rank, number, row))
        self.numbers[number] = True

    def has_number(self, number):
        return number in self.numbers

    # What a row tells can't decide the order, as it may be of any kind.
    def up_to(self, day):
        due = [entry for entry in self.waiting if entry[0] <= day]
        self.waiting = [entry for entry in self.waiting if entry[0] > day]
        return sorted(due, key=lambda entry: entry[:3])
