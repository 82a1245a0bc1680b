"""greatest, told and isone: against a plain search where rooms are small, by rounds where they are not."""

import unittest
from random import Random

from tests.helper import (BILLION, FARTHEST, all_reductions, apply, ask, best_reduction, big_house, drop, entering,
                          floor, greatest, gross, isone, last, roomy, rounds_gain, small_house, take, told, trade)


def told_numbers(rows):
    """The numbers that are told, once their keys are seen to be right."""
    answer = last(entering(rows) + [told()])
    keys = sorted(row[0] for row in rows)
    assert answer[0] == len(rows) and answer[1::2] == keys
    return answer[2::2]


def keeps_to_the_rules(trades, numbers):
    """Whether the numbers are a reduction."""
    over = {}
    for (giver, to, room), number in zip(trades, numbers):
        over[giver] = over.get(giver, 0) - number
        over[to] = over.get(to, 0) + number
        if not 0 <= number <= room:
            return False
    return not any(over.values())


class GreatestAndToldTest(unittest.TestCase):
    def test_no_trades(self):
        self.assertEqual(ask([greatest(), told()]), [[0], [0]])
        self.assertEqual(ask([trade(1, 1, 2, 3, 0), drop(1), greatest(), told()])[2:], [[0], [0]])

    def test_a_ring_loses_its_least_room(self):
        ring = entering([(7, 1, 2, 5, 1), (3, 2, 3, 9, 0), (5, 3, 1, 8, 5)])
        self.assertEqual(ask(ring + [greatest(), told()])[3:], [[9], [3, 3, 3, 5, 3, 7, 3]])

    def test_two_trades_back_and_forth(self):
        self.assertEqual(ask(entering([(1, 1, 2, 5, 0), (2, 2, 1, 3, 0)]) + [greatest(), told()])[2:],
                         [[6], [2, 1, 3, 2, 3]])

    def test_no_ring_no_reduction(self):
        self.assertEqual(ask(entering([(1, 1, 2, 5, 0), (2, 1, 3, 3, 0), (3, 2, 3, 4, 0)]) + [greatest(), told()])[3:],
                         [[0], [3, 1, 0, 2, 0, 3, 0]])

    def test_no_room_no_reduction(self):
        self.assertEqual(ask(entering([(1, 1, 2, 5, 5), (2, 2, 1, 5, 5)]) + [greatest(), told(), isone([1, 1])])[2:],
                         [[0], [2, 1, 0, 2, 0], [0, 2]])

    def test_the_longer_ring_is_taken_where_both_share_a_trade(self):
        rows = [(1, 1, 2, 4, 0), (2, 2, 1, 4, 0), (3, 2, 3, 4, 0), (4, 3, 1, 4, 0)]
        self.assertEqual(ask(entering(rows) + [greatest(), told()])[4:], [[12], [4, 1, 4, 2, 0, 3, 4, 4, 4]])

    def test_of_several_the_lowest_key_has_most_then_the_next(self):
        rows = [(4, 2, 1, 4, 0), (1, 1, 2, 3, 0), (2, 1, 2, 3, 0), (3, 1, 2, 3, 0)]
        self.assertEqual(told_numbers(rows), [3, 1, 0, 4])
        turned = [(1, 2, 1, 4, 0), (4, 1, 2, 3, 0), (3, 1, 2, 3, 0), (2, 1, 2, 3, 0)]
        self.assertEqual(told_numbers(turned), [4, 3, 1, 0])

    def test_a_low_key_comes_before_several_higher_ones(self):
        # From 2 to 1 by 3 or by 4: more of key 1 is less of keys 2 and 3.
        rows = [(5, 1, 2, 5, 0), (1, 2, 3, 3, 0), (6, 3, 1, 9, 0), (2, 2, 4, 4, 0), (3, 4, 1, 4, 0)]
        self.assertEqual(told_numbers(rows), [3, 2, 2, 5, 3])
        turned = [(10 - key, giver, to, amount, least) for key, giver, to, amount, least in rows]
        self.assertEqual(told_numbers(turned), [3, 5, 2, 2, 3])

    def test_greatest_and_told_follow_each_change(self):
        asked = [greatest(), told()]
        calls = entering([(1, 1, 2, 5, 0), (2, 2, 1, 3, 0)]) + asked
        calls += [trade(3, 2, 1, 9, 0)] + asked + [drop(2)] + asked + [apply([1, 1])] + asked + [take()] + asked
        self.assertEqual(ask(calls)[2:], [[6], [2, 1, 3, 2, 3],
                                          [0], [10], [3, 1, 5, 2, 3, 3, 2],
                                          [3], [10], [2, 1, 5, 3, 5],
                                          [2, 10], [8], [2, 1, 4, 3, 4],
                                          [8], [0], [1, 3, 0]])

    def test_greatest_and_told_follow_the_leasts(self):
        ring = entering([(1, 1, 2, 5, 0), (2, 2, 1, 5, 0)])
        self.assertEqual(ask(ring + [told(), floor(1, 3), told(), greatest(), floor(1, 0), told(), greatest()])[2:],
                         [[2, 1, 5, 2, 5], [0], [2, 1, 2, 2, 2], [4], [0], [2, 1, 5, 2, 5], [10]])

    def test_they_change_nothing(self):
        ring = entering([(1, 1, 2, 5, 0), (2, 2, 1, 5, 0)])
        self.assertEqual(ask(ring + [greatest(), told(), gross(), greatest(), told(), gross()])[2:],
                         [[10], [2, 1, 5, 2, 5], [10, 10]] * 2)

    def test_small_houses_against_a_plain_search(self):
        random = Random(20261119)
        several = 0
        for turn in range(600):
            rows = small_house(random, random.randint(2, 5), random.randint(3, 7), random.randint(1, 2))
            trades = roomy(rows)
            best = best_reduction(trades)
            several += sum(sum(numbers) == sum(best) for numbers in all_reductions(trades)) > 1
            answered = ask(entering(rows) + [greatest(), told()])
            self.assertEqual(answered[-2], [sum(best)], rows)
            self.assertEqual(answered[-1][2::2], best, rows)
            self.assertEqual(answered[-1][1::2], sorted(row[0] for row in rows))
        self.assertGreater(several, 100)

    def test_small_houses_with_larger_rooms_against_a_plain_search(self):
        random = Random(5)
        for turn in range(300):
            rows = small_house(random, random.randint(2, 4), random.randint(2, 5), 5)
            self.assertEqual(told_numbers(rows), best_reduction(roomy(rows)), rows)

    def test_the_search_by_rounds_agrees_with_the_plain_search(self):
        random = Random(8)
        for turn in range(200):
            trades = roomy(small_house(random, 3, 5, 2))
            best = best_reduction(trades)
            for numbers in all_reductions(trades):
                self.assertEqual(rounds_gain(trades, numbers), list(numbers) != best)

    def test_houses_of_every_size_have_no_better_reduction(self):
        random = Random(13)
        for turn in range(240):
            members = random.randint(2, 12)
            high = random.choice([1, 2, 3, 10, 1000, BILLION])
            rows = big_house(random, members, random.randint(members, 40), random.choice([1, high]), high)
            trades = roomy(rows)
            numbers = told_numbers(rows)
            self.assertTrue(keeps_to_the_rules(trades, numbers), rows)
            self.assertFalse(rounds_gain(trades, numbers), rows)

    def test_a_narrow_trade_between_wide_ones(self):
        wide = BILLION
        rows = [(1, 1, 2, wide, 0), (2, 1, 3, wide, 0), (3, 2, 3, 1, 0), (4, 3, 2, 1, 0), (5, 2, 4, wide, 0),
                (6, 3, 4, wide, 0), (7, 4, 1, wide, 0), (8, 4, 1, wide, 0)]
        numbers = told_numbers(rows)
        self.assertEqual(sum(numbers), 6 * wide + 2)
        self.assertFalse(rounds_gain(roomy(rows), numbers))


class IsoneTest(unittest.TestCase):
    RING = entering([(30, 1, 2, 5, 1), (10, 2, 3, 7, 0), (20, 3, 1, 6, 2)])

    def isone(self, f):
        return last(self.RING + [isone(f)])

    def test_a_reduction(self):
        self.assertEqual(self.isone([0, 0, 0]), [1, 0])
        self.assertEqual(self.isone([3, 3, 3]), [1, 9])
        self.assertEqual(self.isone([4, 4, 4]), [1, 12])

    def test_above_a_room(self):
        self.assertEqual(self.isone([5, 5, 5]), [0, 15])
        self.assertEqual(self.isone([BILLION] * 3), [0, 3 * BILLION])

    def test_someones_net_would_change(self):
        self.assertEqual(self.isone([1, 0, 0]), [0, 1])
        self.assertEqual(self.isone([1, 1, 2]), [0, 4])
        self.assertEqual(self.isone([2, 2, 1]), [0, 5])

    def test_the_numbers_stand_by_rising_keys(self):
        rows = entering([(9, 1, 2, 5, 0), (4, 1, 2, 1, 0), (7, 2, 1, 5, 0)])
        self.assertEqual(ask(rows + [isone([1, 5, 4]), isone([4, 5, 1]), isone([0, 5, 5])])[3:],
                         [[1, 10], [0, 10], [1, 10]])

    def test_no_trades(self):
        self.assertEqual(ask([isone([]), isone([0])]), [[1, 0], [-1]])

    def test_too_few_or_too_many_numbers(self):
        for f in ([], [0], [0, 0], [0] * 4, [0] * 60):
            self.assertEqual(self.isone(f), [-1])

    def test_numbers_out_of_range(self):
        for wrong in (-1, BILLION + 1, FARTHEST, -FARTHEST):
            for place in range(3):
                f = [0, 0, 0]
                f[place] = wrong
                self.assertEqual(self.isone(f), [-1])

    def test_it_changes_nothing(self):
        self.assertEqual(ask(self.RING + [isone([4, 4, 4]), isone([5, 5, 5]), isone([]), gross(), greatest()])[3:],
                         [[1, 12], [0, 15], [-1], [18, 15], [12]])

    def test_against_a_plain_search(self):
        random = Random(3)
        for turn in range(150):
            rows = small_house(random, random.randint(2, 4), random.randint(1, 5), 2)
            reductions = set(all_reductions(roomy(rows)))
            tried = [list(numbers) for numbers in sorted(reductions)[:40]]
            tried += [[random.randint(0, 3) for row in rows] for more in range(20)]
            expected = [[int(tuple(f) in reductions), sum(f)] for f in tried]
            self.assertEqual(ask(entering(rows) + [isone(f) for f in tried])[len(rows):], expected)
