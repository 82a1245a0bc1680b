"""The house: its trades, and what is kept about them."""

from smallertrades.potentials import bound_of, least_potentials, members_of, worth_of
from smallertrades.reductions import greatest_reduction, is_reduction, told_reduction

MOST_TRADES = 40
MOST_MEMBERS = 12


class Trade:
    """A trade from one member to another one."""

    def __init__(self, giver, to, amount, least):
        self.giver = giver
        self.to = to
        self.amount = amount
        self.least = least

    def room(self):
        """Answer by how much the trade may be made smaller."""
        return self.amount - self.least


class House:
    """Trades by their keys. What its methods are given is in range already."""

    def __init__(self):
        self.book = {}
        # The reduction that's told takes long to find, so it is kept until a trade changes.
        self.kept = None

    def has(self, key):
        """Answer whether there's a trade of that key."""
        return key in self.book

    def entry(self, key):
        """Answer the trade of that key."""
        return self.book[key]

    def order(self):
        """Answer the trades' keys, rising."""
        return sorted(self.book)

    def listed(self):
        """Answer the trades by their keys rising."""
        return [self.book[key] for key in self.order()]

    def members(self):
        """Answer the members' keys, rising."""
        return members_of(self.rooms())

    def takes_in(self, giver, to):
        """Answer whether one more trade between these two members has a place."""
        named = self.members() + [giver, to]
        return len(self.book) < MOST_TRADES and len(set(named)) <= MOST_MEMBERS

    def enter(self, key, giver, to, amount, least):
        """Put a new trade into the book."""
        self.book[key] = Trade(giver, to, amount, least)
        self.kept = None

    def strike(self, key):
        """Take a trade out of the book."""
        self.book.pop(key)
        self.kept = None

    def set_least(self, key, least):
        """Change a trade's least."""
        trade = self.book[key]
        trade.least = least
        self.kept = None

    def lessen(self, numbers):
        """Make each trade's amount less by its number, and strike those that have none left."""
        # Where nothing is taken away, what is kept still holds.
        if not any(numbers):
            return
        for key, number in zip(self.order(), numbers):
            trade = self.book[key]
            trade.amount -= number
            if trade.amount == 0:
                self.strike(key)
        self.kept = None

    def rooms(self):
        """Answer the trades as reductions want them: tuples (giver, to, room) by keys rising."""
        return [(trade.giver, trade.to, trade.room()) for trade in self.listed()]

    def reduction(self):
        """Answer the numbers of the reduction that's told."""
        if self.kept is None:
            self.kept = told_reduction(self.rooms())
        return list(self.kept)

    def allows(self, numbers):
        """Answer whether the numbers for the trades are a reduction."""
        return is_reduction(self.rooms(), numbers)

    def greatest_with(self, key, room):
        """Answer the greatest total if the trade had that room."""
        trades = []
        for other, trade in zip(self.order(), self.rooms()):
            trades.append((trade[0], trade[1], room if other == key else trade[2]))
        return sum(greatest_reduction(trades))

    def potentials(self):
        """Answer the potentials that are told, by the members."""
        return least_potentials(self.rooms(), self.reduction())

    def bound(self, potentials):
        """Answer the bound of potentials that stand by their members' keys rising."""
        return bound_of(self.rooms(), dict(zip(self.members(), potentials)))

    def worth(self, key):
        """Answer what the trade is worth by the potentials that are told."""
        trade = self.book[key]
        return worth_of(trade.giver, trade.to, self.potentials())

    def room_between(self, giver, to):
        """Answer the sum of the rooms of the trades from the one member to the other."""
        return sum([trade.room() for trade in self.listed() if trade.giver == giver and trade.to == to])

    def cancelled_between(self, one, other):
        """Answer what could be taken away between these two members alone."""
        return 2 * min(self.room_between(one, other), self.room_between(other, one))
