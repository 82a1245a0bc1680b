"""take and apply: what they answer and take away, and the promises that nobody's net changes and nothing is left."""

import unittest
from random import Random

from tests.helper import (BILLION, FARTHEST, Refusals, all_reductions, apply, ask, best_reduction, drop, entered,
                          floor, greatest, gross, isone, last, members, net, take, told, trade, trades)

RING = [trade(30, 1, 2, 5, 1), trade(10, 2, 3, 7, 0), trade(20, 3, 1, 6, 2)]


def house(random, members, count, amount):
    """Calls that enter trades with amounts up to this one."""
    calls = []
    for key in random.sample(range(1, 1000), count):
        giver, to = random.sample(range(1, members + 1), 2)
        size = random.randint(1, amount)
        calls.append(trade(key, giver, to, size, random.choice([0, 0, size, random.randint(0, size)])))
    return calls


def amounts(calls):
    """The amount of each trade behind these calls; one that isn't there has none."""
    keys = sorted(key for key, giver, to in entered(calls))
    answered = ask(calls + [drop(key) for key in keys])[len(calls):]
    return {key: answer[0] for key, answer in zip(keys, answered) if answer != [-4]}


def told_trades(answer):
    """What trades answers, by keys: (giver, to, amount, least)."""
    return {answer[place]: tuple(answer[place + 1:place + 5]) for place in range(1, len(answer), 5)}


def rooms(calls):
    return [(call[2], call[3], call[4] - call[5]) for call in sorted(calls)]


class TakeTest(unittest.TestCase):
    def test_no_trades(self):
        self.assertEqual(ask([take(), take(), gross()]), [[0], [0], [0, 0]])

    def test_a_ring_loses_its_least_room(self):
        self.assertEqual(ask(RING + [take(), gross(), told(), take()])[3:],
                         [[12], [6, 3], [3, 10, 0, 20, 0, 30, 0], [0]])
        self.assertEqual(amounts(RING + [take()]), {30: 1, 10: 3, 20: 2})

    def test_trades_whose_amount_is_0_are_not_there_any_more(self):
        calls = [trade(1, 1, 2, 5, 0), trade(2, 2, 1, 3, 0), take()]
        self.assertEqual(ask(calls + [gross(), told(), drop(2), drop(1), net(1)])[2:],
                         [[6], [2, 2], [1, 1, 0], [-4], [2], [0]])
        self.assertEqual(last(calls + [trade(2, 7, 8, 1, 0)]), [0])

    def test_their_members_make_place(self):
        ring = [trade(key, key, key % 12 + 1, 4, 0) for key in range(1, 13)]
        self.assertEqual(ask(ring + [trade(13, 13, 1, 4, 0), take(), trade(13, 13, 14, 4, 0), told()])[12:],
                         [[-9], [48], [0], [1, 13, 0]])

    def test_least_and_amount_the_same_is_left_alone(self):
        calls = [trade(1, 1, 2, 5, 5), trade(2, 2, 1, 3, 3)]
        self.assertEqual(ask(calls + [take(), gross()])[2:], [[0], [8, 0]])

    def test_what_is_told_is_what_is_taken(self):
        random = Random(31)
        for turn in range(60):
            calls = house(random, random.randint(2, 12), random.randint(2, 40), random.choice([2, 50, BILLION]))
            before = amounts(calls)
            answer = last(calls + [told()])
            numbers = dict(zip(answer[1::2], answer[2::2]))
            after = {key: before[key] - numbers.get(key, 0) for key in before if before[key] > numbers.get(key, 0)}
            self.assertEqual(amounts(calls + [take()]), after)
            self.assertEqual(last(calls + [take()]), [sum(numbers.values())])

    def test_a_floor_lowered_behind_take_gives_room_anew(self):
        self.assertEqual(ask(RING + [take(), floor(30, 0), floor(20, 1), greatest(), take(), gross(), drop(30)])[3:],
                         [[12], [0], [0], [3], [3], [3, 2], [-4]])


class ApplyTest(Refusals):
    def test_answers_its_total_and_the_greatest_total_before(self):
        self.assertEqual(ask(RING + [apply([1, 1, 1]), gross(), greatest(), apply([3, 3, 3]), greatest()])[3:],
                         [[3, 12], [15, 12], [9], [9, 9], [0]])

    def test_each_amount_is_less_by_its_number_by_rising_keys(self):
        calls = [trade(9, 1, 2, 5, 0), trade(4, 1, 2, 3, 0), trade(7, 2, 1, 8, 0)]
        self.assertEqual(amounts(calls + [apply([1, 5, 4])]), {4: 2, 7: 3, 9: 1})
        self.assertEqual(last(calls + [apply([1, 5, 4])]), [10, 16])

    def test_trades_whose_amount_is_0_are_not_there_any_more(self):
        calls = [trade(1, 1, 2, 5, 0), trade(2, 2, 1, 3, 0), trade(3, 1, 2, 3, 0), apply([3, 3, 0])]
        self.assertEqual(ask(calls + [told(), isone([0, 0, 0]), isone([0, 0]), drop(2), gross()])[3:],
                         [[6, 6], [2, 1, 0, 3, 0], [-1], [1, 0], [-4], [5, 5]])

    def test_all_0_and_no_trades(self):
        self.assertEqual(ask([apply([])]), [[0, 0]])
        self.assertEqual(ask(RING + [apply([0, 0, 0]), gross(), greatest()])[3:], [[0, 12], [18, 15], [12]])

    def test_the_most_that_can_be(self):
        calls = [trade(1, 1, 2, BILLION, 0), trade(2, 2, 1, BILLION, 0)]
        self.assertEqual(ask(calls + [apply([BILLION, BILLION]), gross(), told()])[2:],
                         [[2 * BILLION, 2 * BILLION], [0, 0], [0]])

    def test_too_few_or_too_many_numbers(self):
        for f in ([], [0], [0, 0], [1, 1], [0] * 4, [0] * 60):
            self.refused(RING, apply(f), -1)
        self.refused([], apply([0]), -1)

    def test_numbers_out_of_range(self):
        for wrong in (-1, BILLION + 1, FARTHEST, -FARTHEST):
            for place in range(3):
                f = [1, 1, 1]
                f[place] = wrong
                self.refused(RING, apply(f), -1)
        self.refused(RING, apply([-1, -1, -1]), -1)

    def test_no_reduction(self):
        for f in ([5, 5, 5], [1, 1, 2], [2, 2, 1], [1, 0, 0], [0, 0, 1], [BILLION] * 3):
            self.refused(RING, apply(f), -6)

    def test_of_several_refusals_the_one_told_first_is_answered(self):
        self.refused(RING, apply([1, 1]), -1)
        self.refused(RING, apply([1, 0, -1]), -1)
        self.refused(RING, apply([1, 0, BILLION + 1]), -1)

    def test_every_reduction_of_small_houses(self):
        random = Random(77)
        for turn in range(60):
            calls = house(random, random.randint(2, 4), random.randint(2, 5), 3)
            best = sum(best_reduction(rooms(calls)))
            for numbers in list(all_reductions(rooms(calls)))[:20]:
                total, before = last(calls + [apply(numbers)])
                self.assertEqual((total, before), (sum(numbers), best))
                left = [(giver, to, room - number) for (giver, to, room), number in zip(rooms(calls), numbers)]
                self.assertEqual(last(calls + [apply(numbers), greatest()]), [sum(best_reduction(left))])


class PromisesTest(unittest.TestCase):
    def kept(self, calls, change):
        """Promise 1: behind the change nets are as before, and amounts lie between their leasts and what they were."""
        members = sorted({member for key, giver, to in entered(calls) for member in (giver, to)})
        nets = [net(member) for member in members]
        self.assertEqual(ask(calls + nets)[len(calls):], ask(calls + [change] + nets)[len(calls) + 1:])
        before, after = amounts(calls), amounts(calls + [change])
        leasts = {call[1]: call[5] for call in calls}
        self.assertLessEqual(set(after), set(before))
        for key in before:
            self.assertTrue(leasts[key] <= after.get(key, 0) <= before[key], calls)
        self.assertNotIn(0, after.values())
        left = [call for call in calls if call[1] in after]
        self.assertEqual(last(calls + [change, told()])[1::2], [call[1] for call in sorted(left)])
        for call in left:
            rest = [drop(key) for key in after if key != call[1]]
            seen = ask(calls + [change] + rest + nets)[-len(nets):]
            expected = [[after[call[1]] * ((call[2] == member) - (call[3] == member))] for member in members]
            self.assertEqual(seen, expected)

    def test_take_changes_nobodys_net_and_leaves_nothing(self):
        random = Random(1)
        for turn in range(80):
            calls = house(random, random.randint(2, 12), random.randint(2, 40), random.choice([1, 3, 100, BILLION]))
            self.kept(calls, take())
            self.assertEqual(ask(calls + [take(), greatest(), take()])[-2:], [[0], [0]])
            self.assertFalse(any(last(calls + [take(), told()])[2::2]))

    def test_apply_changes_nobodys_net(self):
        random = Random(2)
        for turn in range(60):
            calls = house(random, random.randint(2, 12), random.randint(2, 40), random.choice([3, 100, BILLION]))
            best = last(calls + [told()])[2::2]
            self.kept(calls, apply(best))
            self.assertEqual(last(calls + [apply(best), greatest()]), [0])
        for turn in range(40):
            calls = house(random, random.randint(2, 4), random.randint(2, 5), 3)
            for numbers in list(all_reductions(rooms(calls)))[:10]:
                self.kept(calls, apply(numbers))

    def kept_as_it_is_told(self, calls, change):
        """Promise 1 once more, as trades, members and net tell it ahead of the change and behind it."""
        named = last(calls + [members()])[1:]
        asked = [trades(), members()] + [net(member) for member in named]
        answered = ask(calls + asked + [change] + asked)
        before, behind = answered[len(calls):][:len(asked)], answered[-len(asked):]
        self.assertEqual(before[2:], behind[2:], calls)
        self.assertEqual(before[1][1:], named)
        self.assertLessEqual(set(behind[1][1:]), set(named))
        left = told_trades(behind[0])
        for key, (giver, to, amount, least) in told_trades(before[0]).items():
            if key in left:
                self.assertEqual(left[key][:2] + left[key][3:], (giver, to, least))
                self.assertTrue(max(1, least) <= left.pop(key)[2] <= amount)
            else:
                self.assertEqual(least, 0)
        self.assertEqual(left, {})

    def test_trades_members_and_net_tell_the_same_of_take(self):
        random = Random(3)
        for turn in range(100):
            calls = house(random, random.randint(2, 12), random.randint(2, 40), random.choice([1, 3, 100, BILLION]))
            self.kept_as_it_is_told(calls, take())
            best, *behind = ask(calls + [take(), greatest(), told(), trades()])[-4:]
            self.assertEqual(behind[0], [0])
            self.assertFalse(any(behind[1][2::2]))
            self.assertEqual(behind[1][1::2], behind[2][1::5])
            taken = last(calls + [gross()])[0] - last(calls + [take(), gross()])[0]
            self.assertEqual(best, [taken])

    def test_trades_members_and_net_tell_the_same_of_apply(self):
        random = Random(4)
        for turn in range(60):
            calls = house(random, random.randint(2, 12), random.randint(2, 40), random.choice([3, 100, BILLION]))
            best = last(calls + [told()])[2::2]
            self.kept_as_it_is_told(calls, apply(best))
            self.kept_as_it_is_told(calls, apply([1] * len(best)))
            self.assertEqual(ask(calls + [apply(best), trades(), members()])[-2:],
                             ask(calls + [take(), trades(), members()])[-2:])
        for turn in range(40):
            calls = house(random, random.randint(2, 4), random.randint(2, 5), 3)
            for numbers in list(all_reductions(rooms(calls)))[:10]:
                self.kept_as_it_is_told(calls, apply(numbers))
