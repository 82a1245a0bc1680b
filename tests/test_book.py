"""trade, drop, floor, net and gross: what they answer, their edges and their refusals."""

import unittest

from tests.helper import (BILLION, FARTHEST, Refusals, ask, drop, floor, greatest, gross, last, net, told, trade)

RING = [trade(10, 1, 2, 5, 1), trade(20, 2, 3, 7, 0), trade(30, 3, 1, 6, 6)]
OUTSIDE = [0, -1, BILLION + 1, FARTHEST, -FARTHEST]


def forty():
    """40 trades among 12 members."""
    return [trade(key, key % 12 + 1, (key + 1) % 12 + 1, key, 0) for key in range(1, 41)]


class TradeTest(Refusals):
    def test_answers_0_and_the_trade_is_there(self):
        self.assertEqual(ask(RING + [gross(), net(1), net(2), net(3), told()]),
                         [[0], [0], [0], [18, 11], [-1], [2], [-1], [3, 10, 0, 20, 0, 30, 0]])

    def test_the_numbers_at_the_edges_of_their_ranges_are_taken(self):
        edges = [trade(1, 1, BILLION, 1, 0), trade(BILLION, BILLION, 1, BILLION, BILLION), trade(2, 2, 1, 1, 1)]
        self.assertEqual(ask(edges + [gross(), net(1), net(BILLION), net(2)]),
                         [[0], [0], [0], [BILLION + 2, 1], [-BILLION], [BILLION - 1], [1]])

    def test_numbers_out_of_range_are_refused(self):
        for wrong in OUTSIDE:
            self.refused(RING, trade(wrong, 1, 2, 3, 0), -1)
            self.refused(RING, trade(40, wrong, 2, 3, 0), -1)
            self.refused(RING, trade(40, 1, wrong, 3, 0), -1)
            self.refused(RING, trade(40, 1, 2, wrong, 0), -1)
        for wrong in (-1, 4, BILLION + 1, FARTHEST, -FARTHEST):
            self.refused(RING, trade(40, 1, 2, 3, wrong), -1)
        self.refused(RING, trade(40, 1, 2, BILLION, BILLION + 1), -1)

    def test_the_same_member_twice_is_refused(self):
        self.refused(RING, trade(40, 2, 2, 3, 0), -3)
        self.refused([], trade(1, BILLION, BILLION, 1, 0), -3)

    def test_a_key_that_is_there_is_refused(self):
        self.refused(RING, trade(20, 5, 6, 3, 0), -2)
        self.refused(RING, trade(20, 2, 3, 7, 0), -2)

    def test_a_member_may_have_a_trades_key(self):
        self.assertEqual(ask([trade(1, 1, 2, 3, 0), trade(2, 1, 2, 3, 0)]), [[0], [0]])

    def test_the_40th_trade_is_taken_and_the_41st_refused(self):
        self.assertEqual(ask(forty()), [[0]] * 40)
        self.refused(forty(), trade(41, 1, 2, 3, 0), -9)
        self.assertEqual(ask(forty() + [drop(7), trade(41, 1, 2, 3, 0), trade(42, 1, 2, 3, 0)])[40:], [[7], [0], [-9]])

    def test_the_12th_member_is_taken_and_the_13th_refused(self):
        eleven = [trade(key, key, key + 1, 5, 0) for key in range(1, 11)]
        twelve = eleven + [trade(11, 11, 12, 5, 0)]
        self.assertEqual(ask(twelve), [[0]] * 11)
        self.refused(twelve, trade(12, 12, 13, 5, 0), -9)
        self.refused(twelve, trade(12, 13, 12, 5, 0), -9)
        self.refused(eleven, trade(12, 12, 13, 5, 0), -9)
        self.assertEqual(last(twelve + [trade(12, 12, 1, 5, 0)]), [0])

    def test_a_member_whom_no_trade_names_any_more_makes_place(self):
        twelve = [trade(key, key, key + 1, 5, 0) for key in range(1, 12)]
        self.assertEqual(last(twelve + [drop(11), trade(12, 11, 13, 5, 0)]), [0])
        self.assertEqual(last(twelve + [drop(5), trade(12, 12, 13, 5, 0)]), [-9])

    def test_of_several_refusals_the_one_told_first_is_answered(self):
        full = forty()
        self.refused(full, trade(1, 99, 99, 3, 4), -1)
        self.refused(full, trade(0, 99, 99, 3, 0), -1)
        self.refused(full, trade(1, 99, 99, 3, 0), -3)
        self.refused(full, trade(41, 99, 99, 3, 0), -3)
        self.refused(full, trade(1, 98, 99, 3, 0), -2)
        self.refused(full, trade(41, 98, 99, 3, 0), -9)
        self.refused(full, trade(1, 0, 0, 3, 0), -1)


class DropTest(Refusals):
    def test_answers_the_amount_and_the_trade_is_gone(self):
        self.assertEqual(ask(RING + [drop(20), gross(), net(2), told(), drop(20)])[3:],
                         [[7], [11, 4], [-5], [2, 10, 0, 30, 0], [-4]])

    def test_keys_at_the_edges(self):
        self.assertEqual(ask([trade(1, 1, 2, 1, 1), trade(BILLION, 2, 1, BILLION, 0), drop(BILLION), drop(1), gross()]),
                         [[0], [0], [BILLION], [1], [0, 0]])

    def test_a_dropped_key_can_be_entered_again(self):
        self.assertEqual(ask(RING + [drop(20), trade(20, 8, 9, 4, 2), gross(), drop(20)])[3:],
                         [[7], [0], [15, 6], [4]])

    def test_refusals(self):
        for wrong in OUTSIDE:
            self.refused(RING, drop(wrong), -1)
        for missing in (1, 11, BILLION):
            self.refused(RING, drop(missing), -4)
        self.refused([], drop(1), -4)


class FloorTest(Refusals):
    def test_the_least_is_another_from_now_on(self):
        self.assertEqual(ask(RING + [floor(30, 2), gross(), greatest(), floor(30, 6), gross(), greatest()])[3:],
                         [[0], [18, 15], [12], [0], [18, 11], [0]])

    def test_from_0_to_the_amount(self):
        self.assertEqual(ask(RING + [floor(10, 0), gross(), floor(10, 5), gross()])[3:], [[0], [18, 12], [0], [18, 7]])
        top = [trade(BILLION, 1, 2, BILLION, 0)]
        self.assertEqual(ask(top + [floor(BILLION, BILLION), gross()])[1:], [[0], [BILLION, 0]])

    def test_refusals(self):
        for wrong in OUTSIDE:
            self.refused(RING, floor(wrong, 1), -1)
        for wrong in (-1, BILLION + 1, FARTHEST, -FARTHEST):
            self.refused(RING, floor(10, wrong), -1)
        self.refused(RING, floor(11, 1), -4)
        self.refused(RING, floor(10, 6), -3)
        self.refused(RING, floor(10, BILLION), -3)
        self.refused([], floor(1, 0), -4)

    def test_of_several_refusals_the_one_told_first_is_answered(self):
        self.refused(RING, floor(11, BILLION + 1), -1)
        self.refused(RING, floor(0, 6), -1)
        self.refused(RING, floor(10, -1), -1)
        self.refused(RING, floor(11, BILLION), -4)


class NetTest(Refusals):
    def test_the_amounts_from_the_member_less_those_to_it(self):
        calls = [trade(1, 1, 2, 10, 3), trade(2, 1, 2, 4, 4), trade(3, 2, 1, 5, 0), trade(4, 2, 3, 1, 0)]
        self.assertEqual(ask(calls + [net(1), net(2), net(3)])[4:], [[9], [-8], [-1]])

    def test_0_if_no_trade_names_the_member(self):
        self.assertEqual(ask([net(1), net(BILLION)] + RING + [net(10), net(4)]), [[0], [0], [0], [0], [0], [0], [0]])

    def test_members_at_the_edges(self):
        calls = [trade(5, 1, BILLION, BILLION, 0), trade(6, 1, BILLION, BILLION, 0)]
        self.assertEqual(ask(calls + [net(1), net(BILLION)])[2:], [[2 * BILLION], [-2 * BILLION]])

    def test_refusals(self):
        for wrong in OUTSIDE:
            self.refused(RING, net(wrong), -1)


class GrossTest(unittest.TestCase):
    def test_no_trades(self):
        self.assertEqual(last([gross()]), [0, 0])
        self.assertEqual(last([trade(1, 1, 2, 3, 1), drop(1), gross()]), [0, 0])

    def test_amounts_and_rooms(self):
        self.assertEqual(ask(RING + [gross()])[3:], [[18, 11]])
        full = [trade(key, key % 12 + 1, (key + 1) % 12 + 1, BILLION, 0) for key in range(1, 41)]
        self.assertEqual(last(full + [gross()]), [40 * BILLION, 40 * BILLION])
