"""Reductions: what is one, and which one of the greatest total is told.

Trades stand here by their keys rising, each a tuple (giver, to, room), and a list of numbers beside them.
A move is a tuple (start, end, length, place, change): it changes the number of the trade at its place by 1 or
-1 for each unit, and passes what the member start has too much on to the member end.
"""

# A way's length is LOSS for each unit of the total that it costs, and 1 for each of its moves. A way has fewer
# moves than LOSS, so the total counts first. Among equals the fewest moves come first: by that alone the ways
# stay few however large the rooms are.
LOSS = 64


def told_reduction(trades):
    """Answer the numbers of the reduction that's told."""
    numbers = [room for giver, to, room in trades]
    even_out(trades, numbers)
    prefer_low_keys(trades, numbers)
    return numbers


def is_reduction(trades, numbers):
    """Answer whether the numbers keep to the rooms and leave nobody with too much or too little."""
    for place, number in enumerate(numbers):
        if not 0 <= number <= trades[place][2]:
            return False
    over = overhangs(trades, numbers)
    return not any([over[member] != 0 for member in over])


def overhangs(trades, numbers):
    """Answer, for each member, the numbers of the trades to it less those of the trades from it."""
    over = {}
    for place, number in enumerate(numbers):
        giver, to, room = trades[place]
        over[giver] = over.get(giver, 0) - number
        over[to] = over.get(to, 0) + number
    return over


def even_out(trades, numbers):
    """Make numbers that are as great as the rooms a reduction of the greatest total.

    Each shift goes the way that costs the total least, so no other shifts would have cost less together.
    """
    places = list(range(len(trades)))
    over = overhangs(trades, numbers)
    starts = [member for member in over if over[member] > 0]
    while starts:
        lengths, last_moves = shortest_ways(moves_of(trades, numbers, places), starts)
        ends = [member for member in over if over[member] < 0 and member in lengths]
        end = min(ends, key=lambda member: lengths[member])
        way = way_to(end, last_moves)
        start = way[0][0]
        size = min(over[start], -over[end], leeway(trades, numbers, way))
        shift(numbers, way, size)
        over[start] -= size
        over[end] += size
        starts = [member for member in over if over[member] > 0]


def prefer_low_keys(trades, numbers):
    """Make a reduction of the greatest total the one that's told.

    In every reduction of the greatest total a trade that's worth more than 0 has its room, and one that's worth
    less than 0 has 0. So only those that are worth 0 can differ.
    """
    potentials = least_potentials(trades, numbers)
    free = []
    for place, trade in enumerate(trades):
        if 1 + potentials[trade[0]] - potentials[trade[1]] == 0:
            free.append(place)
    for place in free:
        raise_number(trades, numbers, place, [other for other in free if other > place])


def raise_number(trades, numbers, place, places):
    """Make the number at place as great as it can be when beside it only those at places may change."""
    giver, to, room = trades[place]
    while numbers[place] < room:
        lengths, last_moves = shortest_ways(moves_of(trades, numbers, places), [to])
        if giver not in lengths:
            return
        way = way_to(giver, last_moves)
        size = min(room - numbers[place], leeway(trades, numbers, way))
        shift(numbers, way, size)
        numbers[place] += size


def least_potentials(trades, numbers):
    """Answer, for each member, its potential of those that are told; numbers: any reduction of the greatest total."""
    over = overhangs(trades, numbers)
    lengths, last_moves = shortest_ways(moves_of(trades, numbers, list(range(len(trades)))), list(over))
    potentials = {}
    for member in lengths:
        # Rounded down, a length loses its moves, and what the way costs the total is left.
        potentials[member] = -(lengths[member] // LOSS)
    return potentials


def moves_of(trades, numbers, places):
    """Answer the moves that the trades at these places have left."""
    moves = []
    for place in places:
        giver, to, room = trades[place]
        if numbers[place] < room:
            moves.append((giver, to, 1 - LOSS, place, 1))
        if numbers[place] > 0:
            moves.append((to, giver, 1 + LOSS, place, -1))
    return moves


def shortest_ways(moves, starts):
    """Answer two dicts: for each member that's reached from a start how long the shortest way is, and its last move.

    No round of moves gains anything, neither while numbers are evened out nor behind it; so this comes to an end.
    """
    lengths = {}
    last_moves = {}
    for start in starts:
        lengths[start] = 0
    changed = True
    while changed:
        changed = False
        for move in moves:
            if move[0] not in lengths:
                continue
            length = lengths[move[0]] + move[2]
            if move[1] not in lengths or length < lengths[move[1]]:
                lengths[move[1]] = length
                last_moves[move[1]] = move
                changed = True
    return lengths, last_moves


def way_to(member, last_moves):
    """Answer the moves of the shortest way to the member, the first one first."""
    way = []
    while member in last_moves:
        move = last_moves[member]
        way.append(move)
        member = move[0]
    way.reverse()
    return way


def leeway(trades, numbers, way):
    """Answer by how much all moves of the way can be done at the most."""
    sizes = []
    for start, end, length, place, change in way:
        if change > 0:
            sizes.append(trades[place][2] - numbers[place])
        else:
            sizes.append(numbers[place])
    return min(sizes)


def shift(numbers, way, size):
    """Do all moves of the way by that size."""
    for start, end, length, place, change in way:
        numbers[place] += change * size
