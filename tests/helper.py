"""What the tests share: calls written down, answers read back, and a plain house to compare with."""

from itertools import combinations, product
from unittest import TestCase

from smallertrades.house import answers

BILLION = 10 ** 9
FARTHEST = 10 ** 18


def trade(key, giver, to, amount, least=0):
    return [0, key, giver, to, amount, least]


def drop(key):
    return [1, key]


def floor(key, least):
    return [2, key, least]


def take():
    return [3]


def apply(f):
    return [4, len(f)] + list(f)


def net(m):
    return [5, m]


def gross():
    return [6]


def greatest():
    return [7]


def told():
    return [8]


def isone(f):
    return [9, len(f)] + list(f)


def bound(p):
    return [10, len(p)] + list(p)


def potentials():
    return [11]


def proves(p, f):
    return [12, len(p)] + list(p) + [len(f)] + list(f)


def without(key):
    return [13, key]


def pairs():
    return [14]


def worth(key):
    return [15, key]


def members():
    return [16]


def trades():
    return [17]


def between(a, b):
    return [18, a, b]


def ask(calls):
    """The answers to a line, one list for each call."""
    flat = answers([number for call in calls for number in call])
    parted = []
    place = 0
    while place < len(flat):
        behind = place + 1 + flat[place]
        parted.append(flat[place + 1:behind])
        place = behind
    assert place == len(flat) and len(parted) == len(calls)
    return parted


def last(calls):
    """What the last call of a line answers."""
    return ask(calls)[-1]


def probe(rows):
    """Calls that show all there is to see of a house with (key, giver, to) of these trades."""
    nets = [net(member) for member in sorted({member for key, giver, to in rows for member in (giver, to)})]
    calls = [trades(), members(), gross(), greatest(), told(), potentials()] + nets
    for key, giver, to in rows:
        calls += [drop(key), gross()] + nets
    return calls


class Refusals(TestCase):
    def refused(self, before, call, refusal):
        """The call is refused, and the house is as it would be without it."""
        seen = probe(entered(before + [call]))
        told_apart = ask(before + [call] + seen)
        self.assertEqual(told_apart[len(before)], [refusal], call)
        self.assertEqual(told_apart[:len(before)] + told_apart[len(before) + 1:], ask(before + seen), call)


def entered(calls):
    """(key, giver, to) of all trades that these calls would enter."""
    return [(call[1], call[2], call[3]) for call in calls if call[0] == 0]


def small_house(random, members, count, top):
    """Trades (key, giver, to, amount, least) with rooms up to top, by no order of keys."""
    rows = []
    for key in random.sample(range(1, 100), count):
        giver, to = random.sample(range(1, members + 1), 2)
        least = random.randint(0, 3)
        rows.append((key, giver, to, least + random.randint(0 if least else 1, top), least))
    return rows


def big_house(random, members, count, low, high):
    """Trades with amounts from low to high and a ring that names every member."""
    rows = []
    for place in range(count):
        if place < members:
            giver, to = place + 1, (place + 1) % members + 1
        else:
            giver, to = random.sample(range(1, members + 1), 2)
        rows.append((place * 7919 + 1, giver, to, random.randint(low, high), 0))
    return rows


def with_leasts(random, rows):
    """These trades, but some with a least above 0 and some without room."""
    return [row[:4] + (random.choice([0, 0, random.randint(0, row[3]), row[3]]),) for row in rows]


def entering(rows):
    return [trade(*row) for row in rows]


def roomy(rows):
    """The trades (giver, to, room) by rising keys."""
    return [(giver, to, amount - least) for key, giver, to, amount, least in sorted(rows)]


def named_in(rooms):
    """The members of trades (giver, to, room), rising."""
    return sorted({member for giver, to, room in rooms for member in (giver, to)})


def all_reductions(rooms):
    """Every reduction of trades (giver, to, room), found by trying all numbers."""
    named = named_in(rooms)
    for numbers in product(*[range(room + 1) for giver, to, room in rooms]):
        over = dict.fromkeys(named, 0)
        for (giver, to, room), number in zip(rooms, numbers):
            over[giver] -= number
            over[to] += number
        if not any(over.values()):
            yield numbers


def best_reduction(rooms):
    """The reduction that's told, found by trying all of them."""
    return list(max(all_reductions(rooms), key=lambda numbers: (sum(numbers), numbers)))


def plain_bound(rooms, p):
    """The bound of potentials that stand by their members' keys rising."""
    by_member = dict(zip(named_in(rooms), p))
    worths = [1 + by_member[giver] - by_member[to] for giver, to, room in rooms]
    return sum(row[2] * value for row, value in zip(rooms, worths) if value > 0)


def best_potentials(rooms):
    """The potentials that are told, found by trying all that are not above the number of members."""
    count = len(named_in(rooms))
    total = sum(best_reduction(rooms))
    fitting = [p for p in product(range(count + 1), repeat=count) if plain_bound(rooms, p) == total]
    least = tuple(min(column) for column in zip(*fitting))
    assert least in fitting
    return list(least)


def rounds_gain(rooms, numbers):
    """Whether some round of changes would make a better reduction: a greater total, or else greater low keys.

    A round changes each number by 1 at the most, so powers of 2 weigh lower keys enough. Where no round gains,
    no reduction is better.
    """
    count = len(rooms)
    steps = []
    for place, (giver, to, room) in enumerate(rooms):
        weight = 2 ** count + 2 ** (count - 1 - place)
        if numbers[place] < room:
            steps.append((giver, to, weight))
        if numbers[place] > 0:
            steps.append((to, giver, -weight))
    gains = dict.fromkeys(named_in(rooms), 0)
    for turn in range(len(gains)):
        changed = False
        for start, end, gain in steps:
            if gains[start] + gain > gains[end]:
                gains[end] = gains[start] + gain
                changed = True
        if not changed:
            return False
    return True


class PlainHouse:
    """A house by the document's words, for small rooms only."""

    NAMES = ["trade", "drop", "floor", "take", "apply", "net", "gross", "greatest", "told", "isone", "bound",
             "potentials", "proves", "without", "pairs", "worth", "members", "trades", "between"]

    def __init__(self):
        self.book = {}

    def call(self, call):
        name = self.NAMES[call[0]]
        if name in ("apply", "isone", "bound"):
            return getattr(self, name)(call[2:])
        if name == "proves":
            behind = 2 + call[1]
            return getattr(self, name)(call[2:behind], call[behind + 1:])
        return getattr(self, name)(*call[1:])

    def rows(self):
        return [(giver, to, amount - least) for key, (giver, to, amount, least) in sorted(self.book.items())]

    def named(self):
        return named_in(self.rows())

    def best(self):
        return best_reduction(self.rows())

    def lessen(self, f):
        for key, number in zip(sorted(self.book), f):
            giver, to, amount, least = self.book[key]
            self.book[key] = (giver, to, amount - number, least)
        self.book = {key: row for key, row in self.book.items() if row[2] > 0}

    def numbers_fit(self, f):
        return len(f) == len(self.book) and all(0 <= number <= BILLION for number in f)

    def potentials_fit(self, p):
        return len(p) == len(self.named()) and all(-10 ** 6 <= number <= 10 ** 6 for number in p)

    def trade(self, key, giver, to, amount, least):
        if not all(1 <= number <= BILLION for number in (key, giver, to, amount)) or not 0 <= least <= amount:
            return [-1]
        if giver == to:
            return [-3]
        if key in self.book:
            return [-2]
        if len(self.book) == 40 or len(set(self.named()) | {giver, to}) > 12:
            return [-9]
        self.book[key] = (giver, to, amount, least)
        return [0]

    def drop(self, key):
        if not 1 <= key <= BILLION:
            return [-1]
        if key not in self.book:
            return [-4]
        return [self.book.pop(key)[2]]

    def floor(self, key, least):
        if not 1 <= key <= BILLION or not 0 <= least <= BILLION:
            return [-1]
        if key not in self.book:
            return [-4]
        giver, to, amount, before = self.book[key]
        if least > amount:
            return [-3]
        self.book[key] = (giver, to, amount, least)
        return [0]

    def take(self):
        f = self.best()
        self.lessen(f)
        return [sum(f)]

    def apply(self, f):
        if not self.numbers_fit(f):
            return [-1]
        if tuple(f) not in set(all_reductions(self.rows())):
            return [-6]
        before = sum(self.best())
        self.lessen(f)
        return [sum(f), before]

    def net(self, m):
        if not 1 <= m <= BILLION:
            return [-1]
        return [sum(row[2] * ((row[0] == m) - (row[1] == m)) for row in self.book.values())]

    def gross(self):
        return [sum(row[2] for row in self.book.values()), sum(row[2] for row in self.rows())]

    def greatest(self):
        return [sum(self.best())]

    def told(self):
        pairs = zip(sorted(self.book), self.best())
        return [len(self.book)] + [number for pair in pairs for number in pair]

    def isone(self, f):
        if not self.numbers_fit(f):
            return [-1]
        return [int(tuple(f) in set(all_reductions(self.rows()))), sum(f)]

    def bound(self, p):
        if not self.potentials_fit(p):
            return [-1]
        return [plain_bound(self.rows(), p)]

    def potentials(self):
        pairs = zip(self.named(), best_potentials(self.rows()))
        return [len(self.named())] + [number for pair in pairs for number in pair]

    def proves(self, p, f):
        if not self.potentials_fit(p) or not self.numbers_fit(f):
            return [-1]
        return [int(tuple(f) in set(all_reductions(self.rows())) and sum(f) == plain_bound(self.rows(), p))]

    def without(self, key):
        if not 1 <= key <= BILLION:
            return [-1]
        if key not in self.book:
            return [-4]
        gone, bare = PlainHouse(), PlainHouse()
        gone.book = {other: row for other, row in self.book.items() if other != key}
        bare.book = {**self.book, key: self.book[key][:3] + (0,)}
        return gone.greatest() + bare.greatest()

    def room(self, a, b):
        return sum(room for giver, to, room in self.rows() if (giver, to) == (a, b))

    def pairs(self):
        twos = combinations(self.named(), 2)
        return [sum(2 * min(self.room(a, b), self.room(b, a)) for a, b in twos)]

    def worth(self, key):
        if not 1 <= key <= BILLION:
            return [-1]
        if key not in self.book:
            return [-4]
        by_member = dict(zip(self.named(), best_potentials(self.rows())))
        return [1 + by_member[self.book[key][0]] - by_member[self.book[key][1]]]

    def members(self):
        return [len(self.named())] + self.named()

    def trades(self):
        rows = [(key,) + self.book[key] for key in sorted(self.book)]
        return [len(rows)] + [number for row in rows for number in row]

    def between(self, a, b):
        if not 1 <= a <= BILLION or not 1 <= b <= BILLION:
            return [-1]
        if a == b:
            return [-3]
        amounts = [amount for giver, to, amount, least in self.book.values() if (giver, to) == (a, b)]
        return [sum(amounts), 2 * min(self.room(a, b), self.room(b, a))]
