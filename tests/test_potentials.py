"""bound, potentials, proves and worth: against a plain search on small houses, by what they promise on large ones."""

import unittest
from itertools import product
from random import Random

from tests.helper import (BILLION, FARTHEST, Refusals, all_reductions, apply, ask, best_potentials, best_reduction,
                          big_house, bound, drop, entering, floor, greatest, gross, isone, last, members, named_in,
                          plain_bound, potentials, proves, roomy, small_house, take, told, trade, trades, with_leasts,
                          worth)

MILLION = 10 ** 6
OUTSIDE = [MILLION + 1, -MILLION - 1, BILLION, FARTHEST, -FARTHEST]
# From 1 to 2 there's more room than on the way back by 3.
RING = [trade(30, 1, 2, 5, 1), trade(10, 2, 3, 9, 2), trade(20, 3, 1, 6, 4)]


def told_potentials(rows):
    """The potentials that are told, once their members are seen to be right."""
    answer = last(entering(rows) + [potentials()])
    assert answer[0] == len(named_in(roomy(rows))) and answer[1::2] == named_in(roomy(rows))
    return answer[2::2]


def can_be_smaller(rooms, p):
    """Whether some members' potentials can be 1 less, none below 0, with the bound as it is.

    Of potentials whose bound is the greatest total, those that are the smallest are the only ones of which no
    members' can be so.
    """
    high = [place for place, number in enumerate(p) if number > 0]
    for steps in product((0, 1), repeat=len(high)):
        lower = list(p)
        for place, step in zip(high, steps):
            lower[place] -= step
        if any(steps) and plain_bound(rooms, lower) <= plain_bound(rooms, p):
            return True
    return False


class BoundTest(Refusals):
    def bound(self, p):
        return last(RING + [bound(p)])

    def test_the_rooms_times_what_trades_are_worth_above_0(self):
        self.assertEqual(self.bound([0, 0, 0]), [4 + 7 + 2])
        self.assertEqual(self.bound([0, 1, 2]), [2 * 3])
        self.assertEqual(self.bound([1, 0, 0]), [4 * 2 + 7 * 1])
        self.assertEqual(self.bound([0, 5, 0]), [7 * 6 + 2])
        self.assertEqual(self.bound([2, 3, 4]), [2 * 3])

    def test_potentials_may_be_below_0(self):
        self.assertEqual(self.bound([-2, -1, 0]), [2 * 3])
        self.assertEqual(self.bound([-7, -9, -7]), [4 * 3 + 2])

    def test_potentials_stand_by_rising_members(self):
        rows = [trade(1, 9, 4, 3, 0), trade(2, 4, 2, 5, 0)]
        self.assertEqual(ask(rows + [bound([0, 0, 1]), bound([1, 0, 0]), bound([0, 1, 0])])[2:], [[11], [3], [10]])

    def test_the_edges_of_the_range(self):
        self.assertEqual(self.bound([MILLION, -MILLION, MILLION]), [4 * (2 * MILLION + 1) + 2])
        self.assertEqual(self.bound([MILLION] * 3), [13])
        self.assertEqual(self.bound([-MILLION] * 3), [13])
        for wrong in (MILLION + 1, -MILLION - 1, FARTHEST, -FARTHEST):
            for place in range(3):
                p = [0, 0, 0]
                p[place] = wrong
                self.refused(RING, bound(p), -1)

    def test_the_most_that_can_be(self):
        rows = [trade(key, 1, 2, BILLION, 0) for key in range(1, 41)]
        self.assertEqual(last(rows + [bound([MILLION, -MILLION])]), [40 * BILLION * (2 * MILLION + 1)])
        self.assertEqual(last(rows + [bound([-MILLION, MILLION])]), [0])

    def test_no_trades(self):
        self.assertEqual(last([bound([])]), [0])
        self.assertEqual(last([bound([0])]), [-1])
        self.assertEqual(last([trade(1, 1, 2, 3, 0), drop(1), bound([])]), [0])

    def test_too_few_or_too_many_numbers(self):
        for p in ([], [0], [0, 0], [0] * 4, [0] * 60):
            self.refused(RING, bound(p), -1)

    def test_as_many_as_members_not_as_trades(self):
        rows = [trade(1, 1, 2, 3, 0), trade(2, 2, 1, 3, 0), trade(3, 1, 2, 3, 0)]
        self.assertEqual(ask(rows + [bound([0, 0]), bound([0, 0, 0])])[3:], [[9], [-1]])

    def test_members_that_only_trades_without_room_name_are_among_them(self):
        rows = [trade(1, 1, 2, 3, 0), trade(2, 7, 8, 4, 4)]
        self.assertEqual(ask(rows + [bound([0, 0, 5, 0]), bound([0, 0])])[2:], [[3], [-1]])

    def test_no_reductions_total_is_above_any_bound(self):
        random = Random(41)
        for turn in range(100):
            rows = small_house(random, random.randint(2, 5), random.randint(1, 7), 2)
            rooms = roomy(rows)
            tried = [[random.randint(-3, 3) for member in named_in(rooms)] for more in range(20)]
            answered = ask(entering(rows) + [bound(p) for p in tried])[len(rows):]
            self.assertEqual(answered, [[plain_bound(rooms, p)] for p in tried])
            self.assertGreaterEqual(min(answered), [sum(best_reduction(rooms))])

    def test_it_changes_nothing(self):
        asked = [trades(), gross(), told(), potentials()]
        answered = ask(RING + asked + [bound([3, 4, 5]), bound([])] + asked)
        self.assertEqual(answered[3:7], answered[9:])


class PotentialsTest(unittest.TestCase):
    def test_no_trades(self):
        self.assertEqual(last([potentials()]), [0])
        self.assertEqual(last([trade(1, 1, 2, 3, 0), drop(1), potentials()]), [0])

    def test_a_ring_with_one_narrow_trade(self):
        self.assertEqual(ask(RING + [potentials(), greatest()])[3:], [[3, 1, 0, 2, 1, 3, 2], [6]])

    def test_without_a_ring_they_rise_on_each_trade(self):
        rows = [trade(1, 9, 4, 3, 0), trade(2, 4, 7, 5, 0), trade(3, 9, 7, 1, 0)]
        self.assertEqual(last(rows + [potentials()]), [3, 4, 1, 7, 2, 9, 0])

    def test_the_longest_chain(self):
        chain = [trade(key, key, key + 1, 5, 0) for key in range(1, 12)]
        self.assertEqual(last(chain + [potentials()])[2::2], list(range(12)))

    def test_members_at_the_edges(self):
        self.assertEqual(last([trade(1, BILLION, 1, BILLION, 0), potentials()]), [2, 1, 1, BILLION, 0])

    def test_members_that_only_trades_without_room_name_have_0(self):
        rows = RING + [trade(5, 2, 8, 4, 4), trade(6, 7, 1, 3, 3)]
        self.assertEqual(last(rows + [potentials()]), [5, 1, 0, 2, 1, 3, 2, 7, 0, 8, 0])
        self.assertEqual(last([trade(1, 1, 2, 3, 3), potentials()]), [2, 1, 0, 2, 0])

    def test_they_follow_each_change(self):
        calls = RING + [potentials(), floor(10, 9), potentials(), take(), floor(20, 0), potentials(), drop(10),
                        potentials(), trade(9, 2, 1, 2, 0), potentials(), apply([2, 0, 2]), potentials()]
        self.assertEqual(ask(calls)[3:], [[3, 1, 0, 2, 1, 3, 2], [0], [3, 1, 1, 2, 2, 3, 0], [0], [0],
                                          [3, 1, 1, 2, 2, 3, 0], [9], [3, 1, 1, 2, 2, 3, 0], [0],
                                          [3, 1, 1, 2, 2, 3, 0], [4, 4], [3, 1, 1, 2, 2, 3, 0]])

    def test_small_houses_against_a_plain_search(self):
        random = Random(51)
        above = roomless = 0
        for turn in range(400):
            rows = small_house(random, random.randint(2, 4), random.randint(1, 7), random.randint(1, 2))
            rooms = roomy(rows)
            best = best_potentials(rooms)
            above += max(best) > 1
            roomless += len(named_in(rooms)) > len(named_in([row for row in rooms if row[2]]))
            self.assertEqual(told_potentials(rows), best, rows)
        self.assertGreater(above, 50)
        self.assertGreater(roomless, 20)

    def test_five_members_against_a_plain_search(self):
        random = Random(52)
        for turn in range(40):
            rows = small_house(random, 5, random.randint(5, 8), 2)
            self.assertEqual(told_potentials(rows), best_potentials(roomy(rows)), rows)

    def test_promise_2_on_houses_of_every_size(self):
        random = Random(53)
        for turn in range(300):
            count = random.randint(2, 12)
            high = random.choice([1, 2, 3, 10, 1000, BILLION])
            rows = big_house(random, count, random.randint(count, 40), random.choice([1, high]), high)
            rows = with_leasts(random, rows)
            p = told_potentials(rows)
            best, total, f, edge = ask(entering(rows) + [greatest(), bound(p), told(), proves(p, [0] * len(rows))])[-4:]
            self.assertEqual(best, total, rows)
            self.assertEqual(last(entering(rows) + [proves(p, f[2::2])]), [1])
            self.assertEqual(edge, [int(best == [0])])
            self.assertGreaterEqual(min(p), 0)

    def test_none_could_be_smaller_in_houses_of_every_size(self):
        random = Random(54)
        for turn in range(60):
            count = random.randint(2, 9)
            rows = big_house(random, count, random.randint(count, 40), 1, random.choice([2, 100, BILLION]))
            rows = with_leasts(random, rows)
            self.assertFalse(can_be_smaller(roomy(rows), told_potentials(rows)), rows)

    def test_the_search_for_smaller_ones_agrees_with_the_plain_search(self):
        random = Random(55)
        for turn in range(60):
            rooms = roomy(small_house(random, random.randint(2, 3), random.randint(1, 6), 2))
            best = best_potentials(rooms)
            for p in product(range(4), repeat=len(best)):
                if plain_bound(rooms, p) == plain_bound(rooms, best):
                    self.assertEqual(can_be_smaller(rooms, p), list(p) != best)

    def test_it_changes_nothing(self):
        asked = [trades(), gross(), told(), potentials()]
        answered = ask(RING + asked + asked)
        self.assertEqual(answered[3:7], answered[7:])


class ProvesTest(Refusals):
    GOOD = [0, 1, 2]
    BEST = [2, 2, 2]

    def proves(self, p, f):
        return last(RING + [proves(p, f)])

    def test_a_reduction_whose_total_is_the_bound(self):
        self.assertEqual(self.proves(self.GOOD, self.BEST), [1])
        self.assertEqual(self.proves([-1, 0, 1], self.BEST), [1])
        self.assertEqual(self.proves([MILLION - 2, MILLION - 1, MILLION], self.BEST), [1])
        self.assertEqual(self.proves([-MILLION, 1 - MILLION, 2 - MILLION], self.BEST), [1])

    def test_a_total_below_the_bound(self):
        self.assertEqual(self.proves(self.GOOD, [1, 1, 1]), [0])
        self.assertEqual(self.proves(self.GOOD, [0, 0, 0]), [0])
        self.assertEqual(self.proves([0, 0, 0], self.BEST), [0])
        self.assertEqual(self.proves([1, 1, 2], self.BEST), [0])
        self.assertEqual(self.proves([MILLION, -MILLION, MILLION], self.BEST), [0])

    def test_no_reduction_though_its_total_is_the_bound(self):
        self.assertEqual(self.proves(self.GOOD, [1, 2, 3]), [0])
        self.assertEqual(self.proves(self.GOOD, [6, 0, 0]), [0])
        self.assertEqual(self.proves([1, 1, 1], [5, 4, 4]), [0])
        self.assertEqual(self.proves([0, 2, 3], [3, 3, 3]), [0])

    def test_a_net_that_would_change_with_every_number_in_its_room(self):
        rows = [trade(1, 1, 2, 3, 0), trade(2, 2, 1, 2, 0)]
        self.assertEqual(ask(rows + [bound([0, 1]), proves([0, 1], [3, 1]), proves([0, 1], [2, 2])])[2:],
                         [[4], [0], [1]])

    def test_a_number_above_its_room_with_every_net_as_before(self):
        rows = [trade(1, 1, 2, 3, 0), trade(2, 2, 1, 2, 0)]
        self.assertEqual(ask(rows + [bound([0, 0]), bound([0, 2]), proves([0, 2], [3, 3])])[2:], [[5], [6], [0]])

    def test_the_edges_of_the_numbers(self):
        rows = [trade(1, 1, 2, BILLION, 0), trade(2, 2, 1, BILLION, 0)]
        self.assertEqual(last(rows + [proves([0, 0], [BILLION, BILLION])]), [1])
        self.assertEqual(last(rows + [proves([MILLION, MILLION], [BILLION, BILLION])]), [1])

    def test_no_trades(self):
        self.assertEqual(ask([proves([], []), proves([0], []), proves([], [0]), proves([0], [0])]),
                         [[1], [-1], [-1], [-1]])

    def test_wrong_potentials(self):
        for p in ([], [0], [0, 1], [0, 1, 2, 3], [0] * 60):
            self.refused(RING, proves(p, self.BEST), -1)
        for wrong in OUTSIDE:
            for place in range(3):
                p = [0, 1, 2]
                p[place] = wrong
                self.refused(RING, proves(p, self.BEST), -1)

    def test_wrong_numbers(self):
        for f in ([], [2], [2, 2], [2, 2, 2, 0], [0] * 60):
            self.refused(RING, proves(self.GOOD, f), -1)
        for wrong in (-1, BILLION + 1, FARTHEST, -FARTHEST):
            for place in range(3):
                f = [2, 2, 2]
                f[place] = wrong
                self.refused(RING, proves(self.GOOD, f), -1)

    def test_each_list_has_a_length_of_its_own(self):
        rows = [trade(1, 1, 2, 3, 0), trade(2, 2, 1, 2, 0), trade(3, 1, 2, 1, 0)]
        self.assertEqual(ask(rows + [proves([0, 1], [2, 2, 0]), proves([0, 1], [1, 2, 1]), proves([2, 2, 0], [0, 1]),
                                     gross()])[3:], [[1], [1], [-1], [6, 6]])
        rows = [trade(1, 1, 2, 3, 0), trade(2, 3, 2, 2, 0)]
        self.assertEqual(ask(rows + [proves([0, 1, 0], [0, 0]), proves([0, 1], [0, 0, 0])])[2:], [[1], [-1]])

    def test_against_a_plain_search(self):
        random = Random(61)
        seen = {0: 0, 1: 0}
        for turn in range(120):
            rows = small_house(random, random.randint(2, 4), random.randint(1, 6), 2)
            rooms = roomy(rows)
            reductions = set(all_reductions(rooms))
            best = best_potentials(rooms)
            some = [list(f) for f in sorted(reductions, key=sum)[-10:]]
            some += [[random.randint(0, 2) for row in rows] for more in range(10)]
            tried = [(p, f) for f in some for p in (best, [random.randint(0, 3) for number in best])]
            expected = [[int(tuple(f) in reductions and sum(f) == plain_bound(rooms, p))] for p, f in tried]
            self.assertEqual(ask(entering(rows) + [proves(p, f) for p, f in tried])[len(rows):], expected, rows)
            for answer in expected:
                seen[answer[0]] += 1
        self.assertGreater(min(seen.values()), 100)

    def test_it_changes_nothing(self):
        asked = [trades(), gross(), told(), potentials(), isone(self.BEST)]
        answered = ask(RING + asked + [proves(self.GOOD, self.BEST), proves([0, 0, 0], [1, 1, 1])] + asked)
        self.assertEqual(answered[3:8], answered[10:])


class WorthTest(Refusals):
    def test_above_0_and_0_in_a_ring(self):
        self.assertEqual(ask(RING + [worth(30), worth(10), worth(20)])[3:], [[0], [0], [3]])

    def test_below_0(self):
        # The way by 3 is longer, so 2 stands above 1 by more than 1.
        rows = [trade(1, 1, 3, 5, 0), trade(2, 3, 2, 5, 0), trade(3, 1, 2, 5, 0)]
        self.assertEqual(ask(rows + [worth(1), worth(2), worth(3)])[3:], [[0], [0], [-1]])
        chain = [trade(key, key, key + 1, 5, 0) for key in range(1, 12)]
        self.assertEqual(last(chain + [trade(12, 1, 12, 5, 0), worth(12)]), [-10])
        self.assertEqual(last(chain + [trade(12, 12, 1, 5, 5), worth(12)]), [12])

    def test_a_trade_without_room_is_worth_something_too(self):
        self.assertEqual(ask([trade(1, 1, 2, 5, 5), trade(2, 2, 3, 5, 0), worth(1), worth(2)])[2:], [[1], [0]])

    def test_keys_at_the_edges(self):
        rows = [trade(1, 1, BILLION, 5, 0), trade(BILLION, BILLION, 1, 4, 0)]
        self.assertEqual(ask(rows + [worth(1), worth(BILLION)])[2:], [[0], [2]])

    def test_refusals(self):
        for wrong in (0, -1, BILLION + 1, FARTHEST, -FARTHEST):
            self.refused(RING, worth(wrong), -1)
        for missing in (1, 2, 11, BILLION):
            self.refused(RING, worth(missing), -4)
        self.refused([], worth(1), -4)
        self.refused([], worth(0), -1)

    def test_by_the_potentials_that_are_told(self):
        random = Random(71)
        seen = {}
        for turn in range(150):
            count = random.randint(2, 12)
            rows = big_house(random, count, random.randint(count, 40), 1, random.choice([2, 100, BILLION]))
            rows = with_leasts(random, rows)
            by_member = dict(zip(named_in(roomy(rows)), told_potentials(rows)))
            answered = ask(entering(rows) + [worth(row[0]) for row in rows])[len(rows):]
            self.assertEqual(answered, [[1 + by_member[row[1]] - by_member[row[2]]] for row in rows])
            # What trades that are worth something have in the reduction that's told, whatever it is.
            numbers = last(entering(rows) + [told()])[2::2]
            for (giver, to, room), number, (value,) in zip(roomy(rows), numbers, answered):
                self.assertTrue(value <= 0 or number == room)
                self.assertTrue(value >= 0 or number == 0)
                seen[value > 0, value < 0] = seen.get((value > 0, value < 0), 0) + 1
        self.assertEqual(len(seen), 3)

    def test_it_changes_nothing(self):
        asked = [trades(), gross(), told(), potentials(), members()]
        answered = ask(RING + asked + [worth(30), worth(31)] + asked)
        self.assertEqual(answered[3:8], answered[10:])
