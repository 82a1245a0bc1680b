"""Potentials: what trades are worth by them, their bound, and those that are told.

Trades stand here by their keys rising, each a tuple (giver, to, room). Potentials are a dict by the members.
"""

from smallertrades.ways import gain_of, moves_of, shortest_ways


def members_of(trades):
    """Answer the members' keys, rising."""
    named = []
    for giver, to, room in trades:
        named.append(giver)
        named.append(to)
    return sorted(set(named))


def worth_of(giver, to, potentials):
    """Answer what a trade between these members is worth by the potentials."""
    return 1 + potentials[giver] - potentials[to]


def bound_of(trades, potentials):
    """Answer the potentials' bound."""
    return sum([room * max(0, worth_of(giver, to, potentials)) for giver, to, room in trades])


def least_potentials(trades, numbers):
    """Answer the potentials that are told; numbers: any reduction of the greatest total.

    Where the bound is the greatest total, each move that's left leads up at least by what it adds to the total.
    So no potential is less than what a way to its member adds, and potentials that are just that will do.
    """
    lengths, last_moves = shortest_ways(moves_of(trades, numbers, list(range(len(trades)))), members_of(trades))
    potentials = {}
    for member in lengths:
        potentials[member] = gain_of(lengths[member])
    return potentials
