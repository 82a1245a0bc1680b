"""What the tests share: calls written down, answers read back, and a plain house to compare with."""

from itertools import product

from smallertrades.house import answers

BILLION = 10 ** 9
FARTHEST = 10 ** 18


def trade(key, giver, to, amount, least=0):
    return [0, key, giver, to, amount, least]


def drop(key):
    return [1, key]


def floor(key, least):
    return [2, key, least]


def take():
    return [3]


def apply(f):
    return [4, len(f)] + list(f)


def net(m):
    return [5, m]


def gross():
    return [6]


def greatest():
    return [7]


def told():
    return [8]


def isone(f):
    return [9, len(f)] + list(f)


def ask(calls):
    """The answers to a line, one list for each call."""
    flat = answers([number for call in calls for number in call])
    parted = []
    place = 0
    while place < len(flat):
        behind = place + 1 + flat[place]
        parted.append(flat[place + 1:behind])
        place = behind
    assert place == len(flat) and len(parted) == len(calls)
    return parted


def last(calls):
    """What the last call of a line answers."""
    return ask(calls)[-1]


def probe(trades):
    """Calls that show all there is to see of a house with (key, giver, to) of these trades."""
    members = sorted({member for key, giver, to in trades for member in (giver, to)})
    nets = [net(member) for member in members]
    calls = [gross(), greatest(), told()] + nets
    for key, giver, to in trades:
        calls += [drop(key), gross()] + nets
    return calls


def entered(calls):
    """(key, giver, to) of all trades that these calls would enter."""
    return [(call[1], call[2], call[3]) for call in calls if call[0] == 0]


def all_reductions(trades):
    """Every reduction of trades (giver, to, room), found by trying all numbers."""
    members = {member for giver, to, room in trades for member in (giver, to)}
    for numbers in product(*[range(room + 1) for giver, to, room in trades]):
        over = dict.fromkeys(members, 0)
        for (giver, to, room), number in zip(trades, numbers):
            over[giver] -= number
            over[to] += number
        if not any(over.values()):
            yield numbers


def best_reduction(trades):
    """The reduction that's told, found by trying all of them."""
    return list(max(all_reductions(trades), key=lambda numbers: (sum(numbers), numbers)))


def rounds_gain(trades, numbers):
    """Whether some round of changes would make a better reduction: a greater total, or else greater low keys.

    A round changes each number by 1 at the most, so powers of 2 weigh lower keys enough. Where no round gains,
    no reduction is better.
    """
    count = len(trades)
    steps = []
    for place, (giver, to, room) in enumerate(trades):
        weight = 2 ** count + 2 ** (count - 1 - place)
        if numbers[place] < room:
            steps.append((giver, to, weight))
        if numbers[place] > 0:
            steps.append((to, giver, -weight))
    gains = {member: 0 for giver, to, room in trades for member in (giver, to)}
    for turn in range(len(gains)):
        changed = False
        for start, end, gain in steps:
            if gains[start] + gain > gains[end]:
                gains[end] = gains[start] + gain
                changed = True
        if not changed:
            return False
    return True


class PlainHouse:
    """A house by the document's words, for small rooms only."""

    def __init__(self):
        self.trades = {}

    def call(self, call):
        names = ["trade", "drop", "floor", "take", "apply", "net", "gross", "greatest", "told", "isone"]
        name = names[call[0]]
        if name in ("apply", "isone"):
            return getattr(self, name)(call[2:])
        return getattr(self, name)(*call[1:])

    def rows(self):
        return [(giver, to, amount - least) for key, (giver, to, amount, least) in sorted(self.trades.items())]

    def best(self):
        return best_reduction(self.rows())

    def lessen(self, f):
        for key, number in zip(sorted(self.trades), f):
            giver, to, amount, least = self.trades[key]
            self.trades[key] = (giver, to, amount - number, least)
        self.trades = {key: row for key, row in self.trades.items() if row[2] > 0}

    def trade(self, key, giver, to, amount, least):
        if not all(1 <= number <= BILLION for number in (key, giver, to, amount)) or not 0 <= least <= amount:
            return [-1]
        if giver == to:
            return [-3]
        if key in self.trades:
            return [-2]
        members = {member for row in self.trades.values() for member in row[:2]} | {giver, to}
        if len(self.trades) == 40 or len(members) > 12:
            return [-9]
        self.trades[key] = (giver, to, amount, least)
        return [0]

    def drop(self, key):
        if not 1 <= key <= BILLION:
            return [-1]
        if key not in self.trades:
            return [-4]
        return [self.trades.pop(key)[2]]

    def floor(self, key, least):
        if not 1 <= key <= BILLION or not 0 <= least <= BILLION:
            return [-1]
        if key not in self.trades:
            return [-4]
        giver, to, amount, before = self.trades[key]
        if least > amount:
            return [-3]
        self.trades[key] = (giver, to, amount, least)
        return [0]

    def take(self):
        f = self.best()
        self.lessen(f)
        return [sum(f)]

    def apply(self, f):
        if len(f) != len(self.trades) or not all(0 <= number <= BILLION for number in f):
            return [-1]
        if tuple(f) not in set(all_reductions(self.rows())):
            return [-6]
        before = sum(self.best())
        self.lessen(f)
        return [sum(f), before]

    def net(self, m):
        if not 1 <= m <= BILLION:
            return [-1]
        return [sum(row[2] * ((row[0] == m) - (row[1] == m)) for row in self.trades.values())]

    def gross(self):
        return [sum(row[2] for row in self.trades.values()), sum(row[2] for row in self.rows())]

    def greatest(self):
        return [sum(self.best())]

    def told(self):
        pairs = zip(sorted(self.trades), self.best())
        return [len(self.trades)] + [number for pair in pairs for number in pair]

    def isone(self, f):
        if len(f) != len(self.trades) or not all(0 <= number <= BILLION for number in f):
            return [-1]
        return [int(tuple(f) in set(all_reductions(self.rows()))), sum(f)]
