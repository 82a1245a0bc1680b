"""Ways: how one member's surplus is passed on to another one by changing the numbers of trades.

Trades stand here by their keys rising, each a tuple (giver, to, room), and a list of numbers beside them.
A move is a tuple (start, end, length, place, change): it changes the number of the trade at its place by 1 or
-1 for each unit, and passes what the member start has too much on to the member end.
"""

# A way's length is LOSS for each unit of the total that it costs, and 1 for each of its moves. A way has fewer
# moves than LOSS, so the total counts first. Among equals the fewest moves come first: by that alone the ways
# stay few however large the rooms are.
LOSS = 64


def moves_of(trades, numbers, places):
    """Answer the moves that the trades at these places have left."""
    moves = []
    for place in places:
        giver, to, room = trades[place]
        if numbers[place] < room:
            moves.append((giver, to, 1 - LOSS, place, 1))
        if numbers[place] > 0:
            moves.append((to, giver, 1 + LOSS, place, -1))
    return moves


def shortest_ways(moves, starts):
    """Answer two dicts: for each member that's reached from a start how long the shortest way is, and its last move.

    No round of moves gains anything, neither while numbers are evened out nor behind it; so this comes to an end.
    """
    lengths = {}
    last_moves = {}
    for start in starts:
        lengths[start] = 0
    changed = True
    while changed:
        changed = False
        for move in moves:
            if move[0] not in lengths:
                continue
            length = lengths[move[0]] + move[2]
            if move[1] not in lengths or length < lengths[move[1]]:
                lengths[move[1]] = length
                last_moves[move[1]] = move
                changed = True
    return lengths, last_moves


def gain_of(length):
    """Answer what a way of that length adds to the total."""
    # Rounded down, a length loses its moves, and what the way costs the total is left.
    return -(length // LOSS)


def way_to(member, last_moves):
    """Answer the moves of the shortest way to the member, the first one first."""
    way = []
    while member in last_moves:
        move = last_moves[member]
        way.append(move)
        member = move[0]
    way.reverse()
    return way


def leeway(trades, numbers, way):
    """Answer by how much all moves of the way can be done at the most."""
    sizes = []
    for start, end, length, place, change in way:
        if change > 0:
            sizes.append(trades[place][2] - numbers[place])
        else:
            sizes.append(numbers[place])
    return min(sizes)


def shift(numbers, way, size):
    """Do all moves of the way by that size."""
    for start, end, length, place, change in way:
        numbers[place] += change * size
