"""The way in: a line of calls on one new house, written as one list of whole numbers."""

from smallertrades.calls import answer_call, shape_of
from smallertrades.clearing import House


def answers(calls):
    """Answer the line: for each call how many numbers it answers, then these."""
    house = House()
    given = []
    place = 0
    while place < len(calls):
        number = calls[place]
        arguments, place = read_arguments(calls, place + 1, shape_of(number))
        told = answer_call(house, number, arguments)
        given.append(len(told))
        given.extend(told)
    return given


def read_arguments(calls, place, shape):
    """Answer the arguments that begin at place, and the place behind them.

    shape: how many whole numbers there are, and how many lists behind them.
    """
    numbers, lists = shape
    behind = place + numbers
    arguments = list(calls[place:behind])
    for count in range(lists):
        first = behind + 1
        behind = first + calls[behind]
        arguments.append(calls[first:behind])
    return arguments, behind
