"""Reductions: what is one, and which one of the greatest total is told.

Trades stand here by their keys rising, each a tuple (giver, to, room), and a list of numbers beside them.
"""

from smallertrades.potentials import least_potentials, worth_of
from smallertrades.ways import leeway, moves_of, shift, shortest_ways, way_to


def told_reduction(trades):
    """Answer the numbers of the reduction that's told."""
    numbers = greatest_reduction(trades)
    prefer_low_keys(trades, numbers)
    return numbers


def greatest_reduction(trades):
    """Answer the numbers of some reduction of the greatest total."""
    numbers = [room for giver, to, room in trades]
    even_out(trades, numbers)
    return numbers


def is_reduction(trades, numbers):
    """Answer whether the numbers keep to the rooms and leave nobody with too much or too little."""
    for place, number in enumerate(numbers):
        if not 0 <= number <= trades[place][2]:
            return False
    over = overhangs(trades, numbers)
    return not any([over[member] != 0 for member in over])


def overhangs(trades, numbers):
    """Answer, for each member, the numbers of the trades to it less those of the trades from it."""
    over = {}
    for place, number in enumerate(numbers):
        giver, to, room = trades[place]
        over[giver] = over.get(giver, 0) - number
        over[to] = over.get(to, 0) + number
    return over


def even_out(trades, numbers):
    """Make numbers that are as great as the rooms a reduction of the greatest total.

    Each shift goes the way that costs the total least, so no other shifts would have cost less together.
    """
    places = list(range(len(trades)))
    over = overhangs(trades, numbers)
    starts = [member for member in over if over[member] > 0]
    while starts:
        lengths, last_moves = shortest_ways(moves_of(trades, numbers, places), starts)
        ends = [member for member in over if over[member] < 0 and member in lengths]
        end = min(ends, key=lambda member: lengths[member])
        way = way_to(end, last_moves)
        start = way[0][0]
        size = min(over[start], -over[end], leeway(trades, numbers, way))
        shift(numbers, way, size)
        over[start] -= size
        over[end] += size
        starts = [member for member in over if over[member] > 0]


def prefer_low_keys(trades, numbers):
    """Make a reduction of the greatest total the one that's told.

    In every reduction of the greatest total a trade that's worth more than 0 has its room, and one that's worth
    less than 0 has 0. So only those that are worth 0 can differ.
    """
    potentials = least_potentials(trades, numbers)
    free = []
    for place, trade in enumerate(trades):
        if worth_of(trade[0], trade[1], potentials) == 0:
            free.append(place)
    for place in free:
        raise_number(trades, numbers, place, [other for other in free if other > place])


def raise_number(trades, numbers, place, places):
    """Make the number at place as great as it can be when beside it only those at places may change."""
    giver, to, room = trades[place]
    while numbers[place] < room:
        lengths, last_moves = shortest_ways(moves_of(trades, numbers, places), [to])
        if giver not in lengths:
            return
        way = way_to(giver, last_moves)
        size = min(room - numbers[place], leeway(trades, numbers, way))
        shift(numbers, way, size)
        numbers[place] += size
