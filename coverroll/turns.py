"""Cents dealt out to places by their weights, turn by turn."""

from coverroll.cents import is_whole
from coverroll.errors import NoShares

MOST_PLACES = 8
MOST_TURNS = 100


def are_weights(thing):
    if not isinstance(thing, list):
        return False
    if len(thing) < 1 or len(thing) > MOST_PLACES:
        return False
    for weight in thing:
        if not is_whole(weight) or weight < 1:
            return False
    return sum(thing) <= MOST_TURNS


def may_have(weight, dealt, total, turn):
    return dealt * total < weight * (turn + 1)


# A share is off by a whole cent unless the place has its next turn by the time
# that so many are dealt; the sum makes (dealt + 1) * total / weight whole upward.
def due_by(weight, dealt, total):
    return ((dealt + 1) * total + weight - 1) // weight


def place_of_turn(weights, dealt, turn):
    total = sum(weights)
    places = [k for k in range(len(weights)) if may_have(weights[k], dealt[k], total, turn)]
    best = places[0]
    for place in places:
        if due_by(weights[place], dealt[place], total) < due_by(weights[best], dealt[best], total):
            best = place
    return best


def turns(weights):
    if not are_weights(weights):
        raise NoShares("weights are a list of 1 to 8 whole numbers from 1 on that come to 100 at most")
    dealt = [0 for weight in weights]
    wheel = []
    for turn in range(sum(weights)):
        place = place_of_turn(weights, dealt, turn)
        dealt[place] = dealt[place] + 1
        wheel.append(place)
    return wheel


class Deal:
    def __init__(self, weights):
        self.wheel = turns(weights)
        self.weights = list(weights)

    def who(self, n):
        return self.wheel[n % len(self.wheel)]

    # Whole rounds are reckoned, not walked: n may have sixty figures.
    def counts_to(self, n):
        rounds = n // len(self.wheel)
        begun = self.wheel[:n % len(self.wheel)]
        return [rounds * weight + begun.count(place) for place, weight in enumerate(self.weights)]

    def between(self, n, m):
        ahead = self.counts_to(n)
        upto = self.counts_to(m)
        return [upto[place] - ahead[place] for place in range(len(upto))]
