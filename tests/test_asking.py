"""without, pairs, members, trades and between: what they answer, their edges and their refusals."""

from itertools import combinations
from random import Random

from tests.helper import (BILLION, FARTHEST, PlainHouse, Refusals, apply, ask, best_reduction, between, big_house,
                          drop, entering, floor, greatest, gross, last, members, named_in, net, pairs, potentials,
                          roomy, small_house, take, told, trade, trades, with_leasts, without)

RING = [trade(30, 1, 2, 5, 1), trade(10, 2, 3, 9, 2), trade(20, 3, 1, 6, 4)]
OUTSIDE = [0, -1, BILLION + 1, FARTHEST, -FARTHEST]
SHOWN = [trades(), members(), gross(), greatest(), told(), potentials(), net(1), net(2), net(3)]


class Asking(Refusals):
    def changes_nothing(self, call):
        answered = ask(RING + SHOWN + [call] + SHOWN + [call])
        self.assertEqual(answered[3:13], answered[13:])


class WithoutTest(Asking):
    def test_without_the_trade_and_without_its_least(self):
        self.assertEqual(ask(RING + [without(30), without(10), without(20)])[3:], [[0, 6], [0, 6], [0, 12]])

    def test_one_of_two_rings(self):
        rows = [trade(1, 1, 2, 5, 0), trade(2, 2, 1, 9, 6), trade(3, 2, 3, 4, 0), trade(4, 3, 1, 4, 0)]
        asked = [greatest(), without(1), without(2), without(3), without(4)]
        self.assertEqual(ask(rows + asked)[4:], [[14], [0, 14], [12, 14], [6, 14], [6, 14]])
        self.assertEqual(ask(rows + [floor(2, 8)] + asked)[5:], [[14], [0, 14], [12, 14], [2, 14], [2, 14]])
        self.assertEqual(ask(rows + [floor(4, 2)] + asked)[5:], [[12], [0, 12], [6, 12], [6, 12], [6, 14]])

    def test_a_single_trade(self):
        self.assertEqual(last([trade(1, 1, 2, 5, 3), without(1)]), [0, 0])

    def test_keys_and_amounts_at_the_edges(self):
        rows = [trade(1, 1, 2, BILLION, BILLION), trade(BILLION, 2, 1, BILLION, 0)]
        self.assertEqual(ask(rows + [without(1), without(BILLION), greatest()])[2:], [[0, 2 * BILLION], [0, 0], [0]])

    def test_refusals(self):
        for wrong in OUTSIDE:
            self.refused(RING, without(wrong), -1)
        for missing in (1, 2, 11, BILLION):
            self.refused(RING, without(missing), -4)
        self.refused([], without(1), -4)
        self.refused([], without(0), -1)

    def test_as_if_it_were_done_by_drop_and_by_floor(self):
        random = Random(81)
        differ = [0, 0]
        for turn in range(80):
            count = random.randint(2, 12)
            rows = big_house(random, count, random.randint(count, 40), 1, random.choice([2, 100, BILLION]))
            calls = entering(with_leasts(random, rows))
            for row in random.sample(rows, 3 if len(rows) > 3 else 1):
                dropped = last(calls + [drop(row[0]), greatest()])
                floored = last(calls + [floor(row[0], 0), greatest()])
                before, asked, behind = ask(calls + [greatest(), without(row[0]), greatest()])[-3:]
                self.assertEqual(asked, dropped + floored, rows)
                self.assertEqual(behind, before)
                differ[0] += dropped < before
                differ[1] += floored > before
        self.assertGreater(min(differ), 20)

    def test_against_a_plain_search(self):
        random = Random(82)
        for turn in range(120):
            rows = small_house(random, random.randint(2, 4), random.randint(1, 6), 2)
            for key, giver, to, amount, least in rows:
                others = [row for row in rows if row[0] != key]
                expected = [sum(best_reduction(roomy(others))),
                            sum(best_reduction(roomy(others + [(key, giver, to, amount, 0)])))]
                self.assertEqual(last(entering(rows) + [without(key)]), expected, rows)

    def test_it_changes_nothing(self):
        for key in (30, 10, 20, 21):
            self.changes_nothing(without(key))

    def test_take_behind_it_is_as_it_would_be(self):
        self.assertEqual(ask(RING + [without(20), take(), trades()])[4:], ask(RING + [take(), trades()])[3:])


class PairsTest(Asking):
    def test_twice_the_lesser_of_both_ways(self):
        rows = [trade(1, 1, 2, 9, 2), trade(2, 2, 1, 8, 3), trade(3, 1, 2, 1, 0), trade(4, 2, 1, 1, 0)]
        self.assertEqual(last(rows + [pairs()]), [2 * 6])
        self.assertEqual(last(rows + [floor(1, 9), pairs()]), [2 * 1])

    def test_each_two_members(self):
        rows = [trade(1, 1, 2, 5, 0), trade(2, 2, 1, 3, 0), trade(3, 3, 2, 7, 1), trade(4, 2, 3, 9, 0),
                trade(5, 3, 1, 4, 0), trade(6, 1, 3, 2, 1)]
        self.assertEqual(last(rows + [pairs()]), [2 * 3 + 2 * 6 + 2 * 1])

    def test_a_ring_of_three_has_none(self):
        self.assertEqual(ask(RING + [pairs()])[3:], [[0]])

    def test_no_trades_and_no_rooms(self):
        self.assertEqual(last([pairs()]), [0])
        self.assertEqual(last([trade(1, 1, 2, 5, 5), trade(2, 2, 1, 5, 0), pairs()]), [0])

    def test_the_most_that_can_be(self):
        rows = [trade(key, key % 2 + 1, 2 - key % 2, BILLION, 0) for key in range(1, 41)]
        self.assertEqual(ask(rows + [pairs(), greatest()])[40:], [[40 * BILLION]] * 2)

    def test_against_plain_sums(self):
        random = Random(91)
        above = 0
        for turn in range(120):
            count = random.randint(2, 12)
            rows = big_house(random, count, random.randint(count, 40), 1, random.choice([2, 100, BILLION]))
            rows = with_leasts(random, rows)
            rooms = roomy(rows)
            expected = 0
            for one, other in combinations(named_in(rooms), 2):
                forth = sum(room for giver, to, room in rooms if (giver, to) == (one, other))
                back = sum(room for giver, to, room in rooms if (giver, to) == (other, one))
                expected += 2 * min(forth, back)
            answered = last(entering(rows) + [pairs()])
            self.assertEqual(answered, [expected], rows)
            above += answered < last(entering(rows) + [greatest()])
            self.assertLessEqual(answered, last(entering(rows) + [greatest()]))
        self.assertGreater(above, 40)

    def test_it_changes_nothing(self):
        self.changes_nothing(pairs())


class MembersTest(Asking):
    def test_those_that_trades_name_rising(self):
        rows = [trade(1, 9, 4, 3, 0), trade(2, 4, 7, 5, 5), trade(3, 100, 9, 1, 0)]
        self.assertEqual(last(rows + [members()]), [4, 4, 7, 9, 100])

    def test_no_trades(self):
        self.assertEqual(ask([members(), trade(1, 1, 2, 3, 0), drop(1), members()]), [[0], [0], [3], [0]])

    def test_members_at_the_edges(self):
        self.assertEqual(last([trade(5, BILLION, 1, 3, 0), members()]), [2, 1, BILLION])

    def test_twelve(self):
        ring = [trade(key, key, key % 12 + 1, 4, 0) for key in range(12, 0, -1)]
        self.assertEqual(last(ring + [members()]), [12] + list(range(1, 13)))
        self.assertEqual(last(ring + [trade(40, 13, 1, 4, 0), members()]), [12] + list(range(1, 13)))

    def test_those_that_no_trade_names_any_more_are_gone(self):
        calls = [trade(1, 1, 2, 5, 0), trade(2, 2, 1, 5, 0), trade(3, 2, 3, 4, 4)]
        self.assertEqual(ask(calls + [take(), members(), drop(3), members()])[3:], [[10], [2, 2, 3], [4], [0]])
        self.assertEqual(last(calls + [apply([5, 5, 0]), members()]), [2, 2, 3])

    def test_it_changes_nothing(self):
        self.changes_nothing(members())


class TradesTest(Asking):
    def test_each_trade_by_rising_keys(self):
        self.assertEqual(last(RING + [trades()]), [3, 10, 2, 3, 9, 2, 20, 3, 1, 6, 4, 30, 1, 2, 5, 1])

    def test_no_trades(self):
        self.assertEqual(ask([trades(), trade(1, 1, 2, 3, 0), drop(1), trades()]), [[0], [0], [3], [0]])

    def test_numbers_at_the_edges(self):
        rows = [trade(BILLION, BILLION, 1, BILLION, BILLION), trade(1, 1, BILLION, 1, 0)]
        self.assertEqual(last(rows + [trades()]), [2, 1, 1, BILLION, 1, 0, BILLION, BILLION, 1, BILLION, BILLION])

    def test_forty(self):
        rows = [(key, key % 12 + 1, (key + 1) % 12 + 1, key + 5, key % 3) for key in range(40, 0, -1)]
        self.assertEqual(last(entering(rows) + [trades()]), [40] + [number for row in sorted(rows) for number in row])

    def test_it_follows_each_change(self):
        calls = RING + [floor(20, 0), trades(), apply([1, 1, 1]), trades(), drop(30), trades()]
        self.assertEqual(ask(calls)[4::2], [[3, 10, 2, 3, 9, 2, 20, 3, 1, 6, 0, 30, 1, 2, 5, 1],
                                            [3, 10, 2, 3, 8, 2, 20, 3, 1, 5, 0, 30, 1, 2, 4, 1],
                                            [2, 10, 2, 3, 8, 2, 20, 3, 1, 5, 0]])
        self.assertEqual(ask(RING + [floor(20, 0), floor(30, 0), take(), trades()])[5:],
                         [[15], [2, 10, 2, 3, 4, 2, 20, 3, 1, 1, 0]])

    def test_a_least_stays_as_the_amount_falls(self):
        rows = [trade(1, 1, 2, 9, 4), trade(2, 2, 1, 9, 4)]
        self.assertEqual(ask(rows + [take(), trades(), take(), trades()])[2:],
                         [[10], [2, 1, 1, 2, 4, 4, 2, 2, 1, 4, 4], [0], [2, 1, 1, 2, 4, 4, 2, 2, 1, 4, 4]])

    def test_it_changes_nothing(self):
        self.changes_nothing(trades())


class BetweenTest(Asking):
    ROWS = [trade(1, 1, 2, 9, 2), trade(2, 2, 1, 8, 3), trade(3, 1, 2, 1, 0), trade(4, 2, 3, 6, 0),
            trade(5, 3, 1, 5, 0)]

    def test_amounts_one_way_and_what_could_be_taken_away(self):
        asked = [between(1, 2), between(2, 1), between(2, 3), between(3, 2), between(3, 1), between(1, 3)]
        self.assertEqual(ask(self.ROWS + asked)[5:], [[10, 10], [8, 10], [6, 0], [0, 0], [5, 0], [0, 0]])

    def test_members_that_no_trade_names(self):
        self.assertEqual(ask(self.ROWS + [between(1, 4), between(4, 1), between(4, 5), between(1, BILLION)])[5:],
                         [[0, 0]] * 4)
        self.assertEqual(last([between(1, 2)]), [0, 0])

    def test_members_at_the_edges(self):
        rows = [trade(key, 1, BILLION, BILLION, 0) for key in range(1, 21)]
        rows += [trade(key, BILLION, 1, BILLION, 1) for key in range(21, 41)]
        self.assertEqual(ask(rows + [between(1, BILLION), between(BILLION, 1)])[40:],
                         [[20 * BILLION, 40 * (BILLION - 1)]] * 2)

    def test_refusals(self):
        for wrong in OUTSIDE:
            self.refused(RING, between(wrong, 2), -1)
            self.refused(RING, between(2, wrong), -1)
            self.refused(RING, between(wrong, wrong), -1)
        for member in (1, 2, 7, BILLION):
            self.refused(RING, between(member, member), -3)
        self.refused([], between(1, 1), -3)

    def test_against_plain_sums(self):
        random = Random(92)
        for turn in range(60):
            count = random.randint(2, 12)
            rows = with_leasts(random, big_house(random, count, random.randint(count, 40), 1, BILLION))
            plain = PlainHouse()
            plain.book = {row[0]: row[1:] for row in rows}
            twos = [tuple(random.sample(range(1, count + 2), 2)) for more in range(30)]
            self.assertEqual(ask(entering(rows) + [between(a, b) for a, b in twos])[len(rows):],
                             [plain.between(a, b) for a, b in twos])

    def test_all_together_they_are_pairs(self):
        random = Random(93)
        for turn in range(30):
            rows = with_leasts(random, big_house(random, 6, 30, 1, 50))
            calls = entering(rows) + [between(a, b) for a, b in combinations(range(1, 7), 2)] + [pairs()]
            answered = ask(calls)[len(rows):]
            self.assertEqual([sum(answer[1] for answer in answered[:-1])], answered[-1])

    def test_it_changes_nothing(self):
        for a, b in [(1, 2), (2, 1), (1, 5), (1, 1)]:
            self.changes_nothing(between(a, b))
