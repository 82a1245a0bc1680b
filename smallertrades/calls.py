"""The calls: their ranges, their refusals and what they answer.

Each call is a function of the house and the list of its arguments, and answers a list of whole numbers.
"""

MOST = 1000000000
FARTHEST_POTENTIAL = 1000000

OUT_OF_RANGE = -1
KEY_TAKEN = -2
UNFIT = -3
NOT_THERE = -4
NO_REDUCTION = -6
NO_PLACE = -9


def within(number, low, high):
    """Answer whether the number is in the range from low to high."""
    return low <= number <= high


def numbers_for_trades(house, numbers):
    """Answer whether the list can be numbers for the trades."""
    return len(numbers) == len(house.order()) and all([within(number, 0, MOST) for number in numbers])


def potentials_for_members(house, numbers):
    """Answer whether the list can be potentials."""
    fitting = [within(number, -FARTHEST_POTENTIAL, FARTHEST_POTENTIAL) for number in numbers]
    return len(numbers) == len(house.members()) and all(fitting)


def answer_trade(house, arguments):
    """Enter a new trade."""
    key, giver, to, amount, least = arguments
    if not all([within(number, 1, MOST) for number in (key, giver, to, amount)]) or not within(least, 0, amount):
        return [OUT_OF_RANGE]
    if giver == to:
        return [UNFIT]
    if house.has(key):
        return [KEY_TAKEN]
    if not house.takes_in(giver, to):
        return [NO_PLACE]
    house.enter(key, giver, to, amount, least)
    return [0]


def answer_drop(house, arguments):
    """Strike a trade and answer its amount."""
    key = arguments[0]
    if not within(key, 1, MOST):
        return [OUT_OF_RANGE]
    if not house.has(key):
        return [NOT_THERE]
    amount = house.entry(key).amount
    house.strike(key)
    return [amount]


def answer_floor(house, arguments):
    """Give a trade another least."""
    key, least = arguments
    if not within(key, 1, MOST) or not within(least, 0, MOST):
        return [OUT_OF_RANGE]
    if not house.has(key):
        return [NOT_THERE]
    if least > house.entry(key).amount:
        return [UNFIT]
    house.set_least(key, least)
    return [0]


def answer_take(house, arguments):
    """Take away the reduction that's told, and answer its total."""
    numbers = house.reduction()
    house.lessen(numbers)
    return [sum(numbers)]


def answer_apply(house, arguments):
    """Take away a reduction, and answer its total and the greatest one."""
    numbers = arguments[0]
    if not numbers_for_trades(house, numbers):
        return [OUT_OF_RANGE]
    if not house.allows(numbers):
        return [NO_REDUCTION]
    greatest = sum(house.reduction())
    house.lessen(numbers)
    return [sum(numbers), greatest]


def answer_net(house, arguments):
    """Answer what the member gives less what it's given."""
    member = arguments[0]
    if not within(member, 1, MOST):
        return [OUT_OF_RANGE]
    given = sum([trade.amount for trade in house.listed() if trade.giver == member])
    taken = sum([trade.amount for trade in house.listed() if trade.to == member])
    return [given - taken]


def answer_gross(house, arguments):
    """Answer the sum of all amounts and the sum of all rooms."""
    trades = house.listed()
    return [sum([trade.amount for trade in trades]), sum([trade.room() for trade in trades])]


def answer_greatest(house, arguments):
    """Answer the greatest total."""
    return [sum(house.reduction())]


def answer_told(house, arguments):
    """Answer each trade's key and its number in the reduction that's told."""
    keys = house.order()
    told = [len(keys)]
    for key, number in zip(keys, house.reduction()):
        told.append(key)
        told.append(number)
    return told


def answer_isone(house, arguments):
    """Answer whether the numbers are a reduction, and their sum."""
    numbers = arguments[0]
    if not numbers_for_trades(house, numbers):
        return [OUT_OF_RANGE]
    return [1 if house.allows(numbers) else 0, sum(numbers)]


def answer_bound(house, arguments):
    """Answer the potentials' bound."""
    potentials = arguments[0]
    if not potentials_for_members(house, potentials):
        return [OUT_OF_RANGE]
    return [house.bound(potentials)]


def answer_potentials(house, arguments):
    """Answer each member's key and its potential of those that are told."""
    members = house.members()
    potentials = house.potentials()
    told = [len(members)]
    for member in members:
        told.append(member)
        told.append(potentials[member])
    return told


def answer_proves(house, arguments):
    """Answer whether the potentials prove that the numbers are a reduction of the greatest total."""
    potentials, numbers = arguments
    if not potentials_for_members(house, potentials) or not numbers_for_trades(house, numbers):
        return [OUT_OF_RANGE]
    return [1 if house.allows(numbers) and sum(numbers) == house.bound(potentials) else 0]


def answer_without(house, arguments):
    """Answer the greatest total without the trade, and that with its least 0."""
    key = arguments[0]
    if not within(key, 1, MOST):
        return [OUT_OF_RANGE]
    if not house.has(key):
        return [NOT_THERE]
    # A trade that has no room takes no more part in reductions than one that isn't there.
    return [house.greatest_with(key, 0), house.greatest_with(key, house.entry(key).amount)]


def answer_pairs(house, arguments):
    """Answer what could be taken away between each two members alone, all together."""
    members = house.members()
    cancelled = 0
    for place, one in enumerate(members):
        cancelled += sum([house.cancelled_between(one, other) for other in members[place + 1:]])
    return [cancelled]


def answer_worth(house, arguments):
    """Answer what the trade is worth by the potentials that are told."""
    key = arguments[0]
    if not within(key, 1, MOST):
        return [OUT_OF_RANGE]
    if not house.has(key):
        return [NOT_THERE]
    return [house.worth(key)]


def answer_members(house, arguments):
    """Answer the members' keys."""
    members = house.members()
    return [len(members)] + members


def answer_trades(house, arguments):
    """Answer each trade's key, members, amount and least."""
    told = [len(house.order())]
    for key in house.order():
        trade = house.entry(key)
        told.extend([key, trade.giver, trade.to, trade.amount, trade.least])
    return told


def answer_between(house, arguments):
    """Answer the amounts from the one member to the other, and what could be taken away between them alone."""
    one, other = arguments
    if not within(one, 1, MOST) or not within(other, 1, MOST):
        return [OUT_OF_RANGE]
    if one == other:
        return [UNFIT]
    amounts = [trade.amount for trade in house.listed() if trade.giver == one and trade.to == other]
    return [sum(amounts), house.cancelled_between(one, other)]


# By the calls' numbers: the function, how many whole numbers it has, how many lists behind them.
CALLS = (
    (answer_trade, 5, 0),
    (answer_drop, 1, 0),
    (answer_floor, 2, 0),
    (answer_take, 0, 0),
    (answer_apply, 0, 1),
    (answer_net, 1, 0),
    (answer_gross, 0, 0),
    (answer_greatest, 0, 0),
    (answer_told, 0, 0),
    (answer_isone, 0, 1),
    (answer_bound, 0, 1),
    (answer_potentials, 0, 0),
    (answer_proves, 0, 2),
    (answer_without, 1, 0),
    (answer_pairs, 0, 0),
    (answer_worth, 1, 0),
    (answer_members, 0, 0),
    (answer_trades, 0, 0),
    (answer_between, 2, 0),
)


def shape_of(number):
    """Answer how many whole numbers and how many lists the call of that number has."""
    return CALLS[number][1], CALLS[number][2]


def answer_call(house, number, arguments):
    """Do the call of that number and answer its whole numbers."""
    return CALLS[number][0](house, arguments)
