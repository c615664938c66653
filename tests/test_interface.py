"""The interface: one flat list in, one flat list out, and nothing kept."""

import unittest

from crewlegs.rosters import answers
from tests.talk import ask, assign, check, delay, fits, leg, member, rules, swap, unassign

LINE = [
    rules(10, 400, 20, 30, 40, 5, (1000,) * 8, (600, 500)), leg(0, 1, 2000, 2100), leg(1, 0, 2200, 2300, (1, 2, 3)),
    leg(0, 0, 1, 1, ()), member(1), member(2, 0, 1), member(1), assign(1, 1), assign(1, 2), assign(2, 1), check(1),
    swap(1, 2, 0), delay(1, 95), fits(2, 1), unassign(1, 1), check(1), check(9), delay(3, 0),
]


def flat(calls):
    return [number for call in calls for number in call]


class Interface(unittest.TestCase):
    def test_one_flat_list(self):
        self.assertEqual(answers([5, 1]), [1, -3])
        calls = [1, 0, 1, 2000, 2100, 3, 1, 0, 0, 2, 7, 0, 0, 3, 7, 1, 5, 7, 8, 1, 0]
        self.assertEqual(answers(calls), [2, 0, 1, 1, 0, 1, 0, 3, 0, 0, 0, 1, 0])

    def test_rows_of_another_length_are_read_to_their_end(self):
        calls = [0, 0, 300, 0, 0, 0, 30, 0, 3, 5, 5, 5, 1, 0, 1, 2000, 2100, 0, 2, 7, 0, 0]
        self.assertEqual(answers(calls), [1, -2, 1, -2, 1, 0])
        calls = [1, 0, 1, 2000, 2100, 30] + [1] * 30 + [2, 7, 0, 0]
        self.assertEqual(answers(calls), [1, -2, 1, 0])

    def test_each_call_of_a_line(self):
        self.assertEqual(ask(*LINE), [
            [0], [0, 1], [0, 2], [-2], [0], [0], [-4], [0], [0], [0], [0, 0, 0],
            [-10], [0, 1], [0], [0], [0, 1, 1], [-3], [-7]])

    def test_what_is_handed_in_is_not_changed(self):
        calls = flat(LINE)
        copy = list(calls)
        answers(calls)
        self.assertEqual(calls, copy)

    def test_the_same_twice(self):
        calls = flat(LINE)
        first = answers(calls)
        second = answers(calls)
        self.assertEqual(first, second)
        self.assertIsNot(first, second)

    def test_an_answer_that_is_changed_changes_no_later_one(self):
        calls = flat(LINE)
        first = answers(calls)
        copy = list(first)
        first.clear()
        self.assertEqual(answers(calls), copy)

    def test_the_house_is_new_at_the_beginning(self):
        strict = [rules(300, 1440, 180, 180, 2880, 1, (0,) * 8, (60, 0)), leg(0, 1, 2000, 2100), member(1)]
        ask(*strict)
        self.assertEqual(ask(check(1), delay(1, 0), fits(1, 0)), [[-3], [-7], [-7]])
        self.assertEqual(ask(leg(0, 1, 2000, 2100), member(1), assign(1, 1), check(1)), [[0, 1], [0], [0], [0, 0, 0]])

    def test_whole_numbers_alone_come_back(self):
        told = answers(flat(LINE))
        self.assertIs(type(told), list)
        self.assertEqual({type(number) for number in told}, {int})

    def test_three_hundred_calls(self):
        # To and fro on each third day: 14 such days may lie in 60000 minutes.
        starts = [4320 * (1 + k // 2) + 200 * (k % 2) for k in range(60)]
        calls = [leg(k % 2, 1 - k % 2, start, start + 100) for k, start in enumerate(starts)]
        calls += [member(k) for k in range(1, 31)]
        calls += [assign(1 + k % 2, 1 + k // 2) for k in range(120)]
        calls += [rules(windows=(60000, 2800, 60000, 60000, 300, 200, 60, 60))]
        calls += [delay(1 + k % 60, 1) for k in range(88)] + [rules(windows=(60000, 2799))]
        told = ask(*calls)
        self.assertEqual(len(told), 300)
        self.assertEqual(told[60:299], [[0]] * 239)
        self.assertEqual(told[299], [0, 1, 2])

    def test_numbers_far_outside(self):
        far = 10 ** 12
        calls = [[place] + [number] * many + rows for number in (far, -far) for place, many, rows in (
            (0, 6, [1, number, 2, number, number]), (1, 4, [3, number, number, number]), (2, 3, []), (3, 2, []),
            (4, 2, []), (5, 1, []), (6, 3, []), (7, 2, []), (8, 2, []))]
        self.assertEqual(ask(*calls), [[-2]] * 18)


if __name__ == "__main__":
    unittest.main()
