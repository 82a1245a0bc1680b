"""The calls: their ranges, their refusals and what they answer.

Each call is a function of the house and the list of its arguments, and answers a list of whole numbers.
"""

MOST = 1000000000

OUT_OF_RANGE = -1
KEY_TAKEN = -2
UNFIT = -3
NOT_THERE = -4
NO_REDUCTION = -6
NO_PLACE = -9


def within(number, low, high):
    """Answer whether the number is in the range from low to high."""
    return low <= number <= high


def numbers_for_trades(house, numbers):
    """Answer whether the list can be numbers for the trades."""
    return len(numbers) == len(house.order()) and all([within(number, 0, MOST) for number in numbers])


def answer_trade(house, arguments):
    """Enter a new trade."""
    key, giver, to, amount, least = arguments
    if not all([within(number, 1, MOST) for number in (key, giver, to, amount)]) or not within(least, 0, amount):
        return [OUT_OF_RANGE]
    if giver == to:
        return [UNFIT]
    if house.has(key):
        return [KEY_TAKEN]
    if not house.takes_in(giver, to):
        return [NO_PLACE]
    house.enter(key, giver, to, amount, least)
    return [0]


def answer_drop(house, arguments):
    """Strike a trade and answer its amount."""
    key = arguments[0]
    if not within(key, 1, MOST):
        return [OUT_OF_RANGE]
    if not house.has(key):
        return [NOT_THERE]
    amount = house.entry(key).amount
    house.strike(key)
    return [amount]


def answer_floor(house, arguments):
    """Give a trade another least."""
    key, least = arguments
    if not within(key, 1, MOST) or not within(least, 0, MOST):
        return [OUT_OF_RANGE]
    if not house.has(key):
        return [NOT_THERE]
    if least > house.entry(key).amount:
        return [UNFIT]
    house.set_least(key, least)
    return [0]


def answer_take(house, arguments):
    """Take away the reduction that's told, and answer its total."""
    numbers = house.reduction()
    house.lessen(numbers)
    return [sum(numbers)]


def answer_apply(house, arguments):
    """Take away a reduction, and answer its total and the greatest one."""
    numbers = arguments[0]
    if not numbers_for_trades(house, numbers):
        return [OUT_OF_RANGE]
    if not house.allows(numbers):
        return [NO_REDUCTION]
    greatest = sum(house.reduction())
    house.lessen(numbers)
    return [sum(numbers), greatest]


def answer_net(house, arguments):
    """Answer what the member gives less what it's given."""
    member = arguments[0]
    if not within(member, 1, MOST):
        return [OUT_OF_RANGE]
    given = sum([trade.amount for trade in house.listed() if trade.giver == member])
    taken = sum([trade.amount for trade in house.listed() if trade.to == member])
    return [given - taken]


def answer_gross(house, arguments):
    """Answer the sum of all amounts and the sum of all rooms."""
    trades = house.listed()
    return [sum([trade.amount for trade in trades]), sum([trade.room() for trade in trades])]


def answer_greatest(house, arguments):
    """Answer the greatest total."""
    return [sum(house.reduction())]


def answer_told(house, arguments):
    """Answer each trade's key and its number in the reduction that's told."""
    keys = house.order()
    told = [len(keys)]
    for key, number in zip(keys, house.reduction()):
        told.append(key)
        told.append(number)
    return told


def answer_isone(house, arguments):
    """Answer whether the numbers are a reduction, and their sum."""
    numbers = arguments[0]
    if not numbers_for_trades(house, numbers):
        return [OUT_OF_RANGE]
    return [1 if house.allows(numbers) else 0, sum(numbers)]


# By the calls' numbers: the function, how many whole numbers it has, how many lists behind them.
CALLS = (
    (answer_trade, 5, 0),
    (answer_drop, 1, 0),
    (answer_floor, 2, 0),
    (answer_take, 0, 0),
    (answer_apply, 0, 1),
    (answer_net, 1, 0),
    (answer_gross, 0, 0),
    (answer_greatest, 0, 0),
    (answer_told, 0, 0),
    (answer_isone, 0, 1),
)


def shape_of(number):
    """Answer how many whole numbers and how many lists the call of that number has."""
    return CALLS[number][1], CALLS[number][2]


def answer_call(house, number, arguments):
    """Do the call of that number and answer its whole numbers."""
    return CALLS[number][0](house, arguments)
