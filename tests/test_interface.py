"""answers(calls): its form, that it changes and keeps nothing, long lines, and lines against a plain house."""

import time
import unittest
from random import Random

from smallertrades.house import answers
from tests.helper import (BILLION, FARTHEST, PlainHouse, apply, ask, best_potentials, between, bound, drop, floor,
                          greatest, gross, isone, last, members, net, pairs, potentials, proves, take, told, trade,
                          trades, without, worth)


def flat(calls):
    return [number for call in calls for number in call]


def forty(random):
    """40 trades among 12 members with amounts up to 1000000000."""
    calls = []
    for key in range(1, 41):
        giver, to = (key, key % 12 + 1) if key <= 12 else random.sample(range(1, 13), 2)
        amount = random.choice([BILLION, random.randint(1, BILLION)])
        calls.append(trade(key, giver, to, amount, random.choice([0, random.randint(0, amount)])))
    return calls


def of_about(random, count):
    """That many, or now and then one less or one more."""
    return range(max(0, count + random.choice([0] * 8 + [-1, 1])))


def random_numbers(random, plain):
    """Numbers for the trades, now and then not quite."""
    count = len(plain.book)
    return random.choice([plain.best(), plain.best(), [random.randint(0, 1) for place in of_about(random, count)],
                          [random.choice([0, 0, 1, -1, BILLION + 1]) for place in of_about(random, count)]])


def random_potentials(random, plain):
    """Potentials, now and then not quite."""
    count = len(plain.named())
    best = best_potentials(plain.rows())
    return random.choice([best, best, [number + 5 for number in best],
                          [random.randint(-2, 3) for place in of_about(random, count)],
                          [random.choice([0, 10 ** 6, -10 ** 6, 10 ** 6 + 1]) for place in of_about(random, count)]])


def every_question(random, calls):
    """Each call that changes nothing, fit for the house behind these calls."""
    named, best, p = [answer[1:] for answer in ask(calls + [members(), told(), potentials()])[-3:]]
    key = random.choice(best[::2])
    one, other = random.sample(named, 2)
    return [net(one), gross(), greatest(), told(), isone(best[1::2]), bound(p[1::2]), potentials(),
            proves(p[1::2], best[1::2]), without(key), pairs(), worth(key), members(), trades(), between(one, other)]


def every_call_mixed(random):
    """400 calls of all kinds on a house that has 40 trades again and again."""
    calls = forty(random)
    while len(calls) < 400:
        keys = last(calls + [trades()])[1::5]
        for key in sorted(set(range(1, 41)) - set(keys)):
            calls.append(trade(key, *random.sample(range(1, 13), 2), random.randint(1, BILLION), 0))
        questions = every_question(random, calls)
        best = last(calls + [told()])[2::2]
        calls += random.sample(questions, len(questions))
        calls += random.choice([[take(), greatest(), told()], [apply(best), greatest()], [apply([0] * 40), greatest()],
                                [floor(random.randint(1, 40), 0), drop(random.randint(1, 40)), greatest()]])
    return calls[:400]


def random_call(random, plain):
    """A call that is often in range, often near an edge."""
    key = random.choice([random.randint(1, 9)] * 6 + [0, -1, BILLION, BILLION + 1, FARTHEST, -FARTHEST])
    kind = random.choice(["trade"] * 5 + ["drop", "floor", "floor", "take", "apply", "isone", "bound", "proves",
                                          "proves", "between", "of a key", "asked", "asked"])
    if kind == "trade" and len(plain.book) < 6:
        giver, to = random.choice([random.sample(range(1, 5), 2)] * 5 + [[2, 2], [0, 1], [1, BILLION + 1]])
        amount = random.choice([1, 2, 3, 3, 0])
        return trade(key, giver, to, amount, random.choice([0, 0, 0, 1, amount, amount + 1, -1]))
    if kind == "drop":
        return drop(random.choice([key] + sorted(plain.book)))
    if kind == "floor":
        return floor(key, random.choice([0, 1, 2, 3, 4, -1, BILLION, BILLION + 1]))
    if kind == "take":
        return take()
    if kind in ("apply", "isone"):
        f = random_numbers(random, plain)
        return apply(f) if kind == "apply" else isone(f)
    if kind == "bound":
        return bound(random_potentials(random, plain))
    if kind == "proves":
        return proves(random_potentials(random, plain), random_numbers(random, plain))
    if kind == "between":
        return between(random.choice([random.randint(1, 5), key]), random.randint(1, 5))
    if kind == "of a key":
        key = random.choice([key] + sorted(plain.book) * 2)
        return random.choice([without(key), worth(key)])
    return random.choice([net(key), net(random.randint(1, 5)), gross(), greatest(), told(), potentials(), pairs(),
                          members(), trades()])


def is_refused(call, answer, plain):
    """Whether that's a refusal; net and worth may answer a number below 0 that is none."""
    if call[0] == 5:
        return not 1 <= call[1] <= BILLION
    if call[0] == 15:
        return call[1] not in plain.book
    return answer[0] < 0


class FormTest(unittest.TestCase):
    def test_each_call_has_its_count_then_its_numbers(self):
        calls = flat([trade(1, 1, 2, 5, 0), trade(2, 2, 1, 3, 0), gross(), told(), greatest(), apply([1, 1]), net(2),
                      isone([1, 1]), drop(9), floor(1, 1), take(), drop(1)])
        self.assertEqual(answers(calls), [1, 0, 1, 0, 2, 8, 8, 5, 2, 1, 3, 2, 3, 1, 6, 2, 2, 6, 1, -2, 2, 1, 2, 1, -4,
                                          1, 0, 1, 4, 1, 2])

    def test_each_call_from_10_on_has_its_count_then_its_numbers(self):
        calls = flat([trade(1, 1, 2, 5, 0), trade(2, 2, 1, 3, 1), bound([0, 1]), potentials(), proves([0, 1], [2, 2]),
                      without(2), pairs(), worth(2), members(), trades(), between(2, 1), bound([]), proves([0, 1], []),
                      without(3), worth(3), between(7, 7), between(0, 7), trade(3, 2, 3, 1, 1), worth(3),
                      drop(2), worth(3)])
        self.assertEqual(answers(calls), [1, 0, 1, 0, 1, 4, 5, 2, 1, 0, 2, 1, 1, 1, 2, 0, 6, 1, 4, 1, 2, 3, 2, 1, 2,
                                          11, 2, 1, 1, 2, 5, 0, 2, 2, 1, 3, 1, 2, 3, 4, 1, -1, 1, -1, 1, -4, 1, -4,
                                          1, -3, 1, -1, 1, 0, 1, 2, 1, 3, 1, 2])

    def test_worth_may_be_minus_1_or_minus_4_and_no_refusal(self):
        chain = [trade(key, key, key + 1, 5, 0) for key in range(1, 7)]
        self.assertEqual(answers(flat(chain + [trade(9, 1, 3, 1, 0), worth(9), trade(8, 1, 6, 1, 0), worth(8)]))[12:],
                         [1, 0, 1, -1, 1, 0, 1, -4])

    def test_the_answers_are_a_list_of_plain_whole_numbers(self):
        given = answers(flat([trade(1, 1, 2, 5, 0), isone([0]), isone([1]), told(), net(1), bound([0, 1]), potentials(),
                              proves([0, 1], [0]), proves([0, 0], [0]), without(1), pairs(), worth(1), members(),
                              trades(), between(1, 2), between(2, 1), apply([0]), take()]))
        self.assertIs(type(given), list)
        self.assertEqual({type(number) for number in given}, {int})

    def test_a_single_call(self):
        self.assertEqual(answers([7]), [1, 0])
        self.assertEqual(answers([8]), [1, 0])
        self.assertEqual(answers([4, 0]), [2, 0, 0])
        self.assertEqual(answers([9, 1, 0]), [1, -1])
        self.assertEqual(answers([10, 0]), [1, 0])
        self.assertEqual(answers([11]), [1, 0])
        self.assertEqual(answers([12, 0, 0]), [1, 1])
        self.assertEqual(answers([14]), [1, 0])
        self.assertEqual(answers([16]), [1, 0])
        self.assertEqual(answers([17]), [1, 0])
        self.assertEqual(answers([18, 2, 1]), [2, 0, 0])

    def test_a_list_of_60_numbers_is_read_to_its_end(self):
        longest = [FARTHEST] * 60
        self.assertEqual(ask([isone(longest), apply([-FARTHEST] * 60), bound(longest), proves(longest, longest),
                              proves([], longest), proves(longest, []), gross()]), [[-1]] * 6 + [[0, 0]])

    def test_arguments_at_the_ends_of_what_is_handed_in(self):
        for end in (FARTHEST, -FARTHEST):
            self.assertEqual(ask([trade(end, end, end, end, end), drop(end), floor(end, end), net(end), isone([end]),
                                  apply([end]), bound([end]), proves([end], [end]), without(end), worth(end),
                                  between(end, end), gross()]), [[-1]] * 11 + [[0, 0]])


class NothingKeptTest(unittest.TestCase):
    def test_what_is_handed_in_is_unchanged_and_a_second_time_answers_the_same(self):
        random = Random(4)
        for turn in range(5):
            house = forty(random)
            calls = flat(house + every_question(random, house) + [apply([0] * 40), take(), told(), gross(), trades()])
            copy = list(calls)
            first = answers(calls)
            self.assertEqual(calls, copy)
            self.assertEqual(answers(calls), first)
            self.assertEqual(answers([6, 7, 8, 11, 16, 17]), [2, 0, 0, 1, 0, 1, 0, 1, 0, 1, 0, 1, 0])

    def test_no_question_changes_the_house(self):
        random = Random(5)
        for turn in range(20):
            house = forty(random)
            questions = every_question(random, house)
            answered = ask(house + questions + random.sample(questions, len(questions)) + questions)[40:]
            self.assertEqual(answered[:len(questions)], answered[-len(questions):])
            self.assertEqual(answered[:len(questions)], [last(house + [question]) for question in questions])

    def test_the_answers_are_a_new_list_each_time(self):
        first = answers([6])
        first.append(5)
        self.assertEqual(answers([6]), [2, 0, 0])


class LongLinesTest(unittest.TestCase):
    # Far more than a line takes, far less than one whose steps grow with the rooms would.
    SECONDS = 20

    def soon(self, calls):
        self.assertLessEqual(len(calls), 400)
        began = time.monotonic()
        answered = ask(calls)
        self.assertLess(time.monotonic() - began, self.SECONDS)
        return answered

    def test_400_calls_that_take_and_tell_again_and_again(self):
        random = Random(6)
        for turn in range(3):
            calls = forty(random) + [told(), greatest(), take()] * 120
            answered = self.soon(calls)
            self.assertEqual(answered[41], answered[42])
            self.assertEqual(answered[44::3], [[0]] * 119)
            self.assertEqual(answered[45::3], [[0]] * 119)

    def test_400_calls_that_change_the_house_before_each_question(self):
        random = Random(7)
        for turn in range(3):
            calls = forty(random)
            while len(calls) < 400:
                calls += [floor(random.randint(1, 40), random.randint(0, 1000)), random.choice([told(), greatest()])]
            answered = self.soon(calls)
            self.assertEqual(len(answered), 400)

    def test_400_calls_that_take_and_enter_anew(self):
        random = Random(9)
        calls = forty(random)
        while len(calls) < 400:
            key = random.randint(1, 40)
            calls += [drop(key), trade(key, *random.sample(range(1, 13), 2), BILLION, 0), told(), take()]
        answered = self.soon(calls)
        self.assertEqual(answered[43::4], [[sum(row[2::2])] for row in answered[42::4]])

    def test_400_calls_that_ask_without(self):
        random = Random(12)
        for turn in range(3):
            calls = forty(random) + [greatest()] + [without(key % 40 + 1) for key in range(359)]
            answered = self.soon(calls)
            for gone, bare in answered[41:]:
                self.assertTrue(gone <= answered[40][0] <= bare)

    def test_400_calls_that_ask_for_potentials_behind_each_change(self):
        random = Random(14)
        calls = forty(random)
        while len(calls) < 400:
            calls += [floor(random.randint(1, 40), random.randint(0, 1000)), potentials(), worth(7), pairs()]
        self.soon(calls)

    def test_400_calls_of_all_nineteen_kinds(self):
        random = Random(15)
        seen = set()
        for turn in range(3):
            calls = every_call_mixed(random)
            answered = self.soon(calls)
            seen |= {call[0] for call in calls}
            best = None
            for call, answer in zip(calls, answered):
                # What greatest, the bound and the numbers that are told come to stays one number until a change.
                if call[0] in (0, 1, 2, 3, 4):
                    best = None
                if call[0] in (7, 8, 9, 10):
                    total = {7: answer[0], 8: sum(answer[2::2]), 9: answer[-1], 10: answer[0]}[call[0]]
                    self.assertIn(best, (None, total))
                    best = total
                if call[0] in (9, 12):
                    self.assertEqual(answer[0], 1)
        self.assertEqual(seen, set(range(19)))

    def test_400_calls_with_the_longest_lists(self):
        calls = [isone([FARTHEST] * 38)] * 400
        self.assertLessEqual(len(flat(calls)), 16000)
        self.assertEqual(ask(calls), [[-1]] * 400)


class LinesAgainstAPlainHouseTest(unittest.TestCase):
    def test_lines_of_all_nineteen_calls(self):
        random = Random(10)
        seen = {}
        for turn in range(200):
            plain = PlainHouse()
            calls, expected = [], []
            for step in range(random.randint(1, 60)):
                call = random_call(random, plain)
                calls.append(call)
                expected.append(plain.call(call))
                outcome = call[0], expected[-1][0] if is_refused(call, expected[-1], plain) else 0
                seen[outcome] = seen.get(outcome, 0) + 1
            self.assertEqual(ask(calls), expected, calls)
        for wanted in [(0, 0), (0, -1), (0, -2), (0, -3), (1, 0), (1, -1), (1, -4), (2, 0), (2, -1), (2, -3),
                       (2, -4), (3, 0), (4, 0), (4, -1), (4, -6), (5, 0), (6, 0), (7, 0), (8, 0), (9, 0), (9, -1),
                       (10, 0), (10, -1), (11, 0), (12, 0), (12, -1), (13, 0), (13, -1), (13, -4), (14, 0), (15, 0),
                       (15, -1), (15, -4), (16, 0), (17, 0), (18, 0), (18, -1), (18, -3)]:
            self.assertGreater(seen.get(wanted, 0), 5, wanted)
