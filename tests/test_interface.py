"""answers(calls): its form, that it changes and keeps nothing, long lines, and lines against a plain house."""

import time
import unittest
from random import Random

from smallertrades.house import answers
from tests.helper import (BILLION, FARTHEST, PlainHouse, apply, ask, drop, floor, greatest, gross, isone, net, take,
                          told, trade)


def flat(calls):
    return [number for call in calls for number in call]


def forty(random):
    """40 trades among 12 members with amounts up to 1000000000."""
    calls = []
    for key in range(1, 41):
        giver, to = (key, key % 12 + 1) if key <= 12 else random.sample(range(1, 13), 2)
        amount = random.choice([BILLION, random.randint(1, BILLION)])
        calls.append(trade(key, giver, to, amount, random.choice([0, random.randint(0, amount)])))
    return calls


def random_call(random, plain):
    """A call that is often in range, often near an edge."""
    key = random.choice([random.randint(1, 9)] * 6 + [0, -1, BILLION, BILLION + 1, FARTHEST, -FARTHEST])
    kind = random.choice(["trade"] * 4 + ["drop", "floor", "floor", "take", "apply", "isone", "asked", "asked"])
    if kind == "trade" and len(plain.trades) < 6:
        giver, to = random.choice([random.sample(range(1, 5), 2)] * 5 + [[2, 2], [0, 1], [1, BILLION + 1]])
        amount = random.choice([1, 2, 3, 3, 0])
        return trade(key, giver, to, amount, random.choice([0, 0, 0, 1, amount, amount + 1, -1]))
    if kind == "drop":
        return drop(random.choice([key] + sorted(plain.trades)))
    if kind == "floor":
        return floor(key, random.choice([0, 1, 2, 3, 4, -1, BILLION, BILLION + 1]))
    if kind == "take":
        return take()
    if kind in ("apply", "isone"):
        count = len(plain.trades) + random.choice([0] * 8 + [-1, 1])
        f = random.choice([plain.best(), [random.randint(0, 1) for place in range(max(count, 0))],
                           [random.choice([0, 0, 1, -1, BILLION + 1]) for place in range(max(count, 0))]])
        return apply(f) if kind == "apply" else isone(f)
    return random.choice([net(key), net(random.randint(1, 5)), gross(), greatest(), told()])


class FormTest(unittest.TestCase):
    def test_each_call_has_its_count_then_its_numbers(self):
        calls = flat([trade(1, 1, 2, 5, 0), trade(2, 2, 1, 3, 0), gross(), told(), greatest(), apply([1, 1]), net(2),
                      isone([1, 1]), drop(9), floor(1, 1), take(), drop(1)])
        self.assertEqual(answers(calls), [1, 0, 1, 0, 2, 8, 8, 5, 2, 1, 3, 2, 3, 1, 6, 2, 2, 6, 1, -2, 2, 1, 2, 1, -4,
                                          1, 0, 1, 4, 1, 2])

    def test_the_answers_are_a_list_of_plain_whole_numbers(self):
        given = answers(flat([trade(1, 1, 2, 5, 0), isone([0]), isone([1]), told(), net(1), apply([0]), take()]))
        self.assertIs(type(given), list)
        self.assertEqual({type(number) for number in given}, {int})

    def test_a_single_call(self):
        self.assertEqual(answers([7]), [1, 0])
        self.assertEqual(answers([8]), [1, 0])
        self.assertEqual(answers([4, 0]), [2, 0, 0])
        self.assertEqual(answers([9, 1, 0]), [1, -1])

    def test_a_list_of_60_numbers_is_read_to_its_end(self):
        self.assertEqual(ask([isone([FARTHEST] * 60), apply([-FARTHEST] * 60), gross()]), [[-1], [-1], [0, 0]])

    def test_arguments_at_the_ends_of_what_is_handed_in(self):
        for end in (FARTHEST, -FARTHEST):
            self.assertEqual(ask([trade(end, end, end, end, end), drop(end), floor(end, end), net(end), isone([end]),
                                  apply([end]), gross()]), [[-1]] * 6 + [[0, 0]])


class NothingKeptTest(unittest.TestCase):
    def test_what_is_handed_in_is_unchanged_and_a_second_time_answers_the_same(self):
        random = Random(4)
        for turn in range(5):
            calls = flat(forty(random) + [told(), isone([0] * 40), apply([0] * 40), take(), told(), gross()])
            copy = list(calls)
            first = answers(calls)
            self.assertEqual(calls, copy)
            self.assertEqual(answers(calls), first)
            self.assertEqual(answers([6, 7, 8]), [2, 0, 0, 1, 0, 1, 0])

    def test_the_answers_are_a_new_list_each_time(self):
        first = answers([6])
        first.append(5)
        self.assertEqual(answers([6]), [2, 0, 0])


class LongLinesTest(unittest.TestCase):
    # Far more than a line takes, far less than one whose steps grow with the rooms would.
    SECONDS = 20

    def soon(self, calls):
        self.assertLessEqual(len(calls), 400)
        began = time.monotonic()
        answered = ask(calls)
        self.assertLess(time.monotonic() - began, self.SECONDS)
        return answered

    def test_400_calls_that_take_and_tell_again_and_again(self):
        random = Random(6)
        for turn in range(3):
            calls = forty(random) + [told(), greatest(), take()] * 120
            answered = self.soon(calls)
            self.assertEqual(answered[41], answered[42])
            self.assertEqual(answered[44::3], [[0]] * 119)
            self.assertEqual(answered[45::3], [[0]] * 119)

    def test_400_calls_that_change_the_house_before_each_question(self):
        random = Random(7)
        for turn in range(3):
            calls = forty(random)
            while len(calls) < 400:
                calls += [floor(random.randint(1, 40), random.randint(0, 1000)), random.choice([told(), greatest()])]
            answered = self.soon(calls)
            self.assertEqual(len(answered), 400)

    def test_400_calls_that_take_and_enter_anew(self):
        random = Random(9)
        calls = forty(random)
        while len(calls) < 400:
            key = random.randint(1, 40)
            calls += [drop(key), trade(key, *random.sample(range(1, 13), 2), BILLION, 0), told(), take()]
        answered = self.soon(calls)
        self.assertEqual(answered[43::4], [[sum(row[2::2])] for row in answered[42::4]])

    def test_400_calls_with_the_longest_lists(self):
        calls = [isone([FARTHEST] * 38)] * 400
        self.assertLessEqual(len(flat(calls)), 16000)
        self.assertEqual(ask(calls), [[-1]] * 400)


class LinesAgainstAPlainHouseTest(unittest.TestCase):
    def test_lines_of_all_ten_calls(self):
        random = Random(10)
        seen = {}
        for turn in range(150):
            plain = PlainHouse()
            calls, expected = [], []
            for step in range(random.randint(1, 60)):
                call = random_call(random, plain)
                calls.append(call)
                expected.append(plain.call(call))
                refusal = expected[-1][0] if expected[-1][0] < 0 and call[0] != 5 else 0
                seen[call[0], refusal] = seen.get((call[0], refusal), 0) + 1
            self.assertEqual(ask(calls), expected, calls)
        for wanted in [(0, 0), (0, -1), (0, -2), (0, -3), (1, 0), (1, -1), (1, -4), (2, 0), (2, -1), (2, -3), (2, -4), (3, 0),
                       (4, 0), (4, -1), (4, -6), (5, 0), (6, 0), (7, 0), (8, 0), (9, 0), (9, -1)]:
            self.assertGreater(seen.get(wanted, 0), 5, wanted)
