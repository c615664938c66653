"""The interface: one flat list in, one flat list out, and nothing kept."""

import time
import unittest

from crewlegs.rosters import answers
from tests.talk import (ask, assign, check, delay, duties, fill, fits, flying, leg, member, roster, rules, run, shown,
                        swap, unassign, unmet, worst)

LINE = [
    rules(10, 400, 20, 30, 40, 5, (1000,) * 8, (600, 500)), leg(0, 1, 2000, 2100), leg(1, 0, 2200, 2300, (1, 2, 3)),
    leg(0, 0, 1, 1, ()), member(1), member(2, 0, 1), member(1), assign(1, 1), assign(1, 2), assign(2, 1), check(1),
    swap(1, 2, 0), delay(1, 95), fits(2, 1), unassign(1, 1), check(1), check(9), delay(3, 0),
    member(3), fill(1), flying(3, 2100, 50), worst(2, 60), roster(1), duties(3), unmet(), run(2), shown(1),
    fill(3), flying(9, 0, 0), worst(1, -1), roster(9), duties(0), run(9), shown(3), swap(1, 3, 2150),
]


def forbidden(self, *told, **named):
    raise AssertionError("what was handed in is changed")


class Unchanging(list):
    """A list that can't be changed, not even to be put right again."""
    append = extend = insert = pop = remove = clear = reverse = sort = forbidden
    __setitem__ = __delitem__ = __iadd__ = __imul__ = forbidden


def flat(calls):
    return [number for call in calls for number in call]


class Interface(unittest.TestCase):
    def test_one_flat_list(self):
        self.assertEqual(answers([5, 1]), [1, -3])
        self.assertEqual(answers([14]), [1, 0])
        calls = [1, 0, 1, 2000, 2100, 3, 1, 0, 0, 2, 7, 0, 0, 3, 7, 1, 5, 7, 8, 1, 0]
        self.assertEqual(answers(calls), [2, 0, 1, 1, 0, 1, 0, 3, 0, 0, 0, 1, 0])

    def test_rows_of_another_length_are_read_to_their_end(self):
        calls = [0, 0, 300, 0, 0, 0, 30, 0, 3, 5, 5, 5, 1, 0, 1, 2000, 2100, 0, 2, 7, 0, 0]
        self.assertEqual(answers(calls), [1, -2, 1, -2, 1, 0])
        calls = [1, 0, 1, 2000, 2100, 30] + [1] * 30 + [2, 7, 0, 0]
        self.assertEqual(answers(calls), [1, -2, 1, 0])

    def test_each_call_of_a_line(self):
        self.assertEqual(ask(*LINE), [
            [0], [0, 1], [0, 2], [-2], [0], [0], [-4], [0], [0], [0], [0, 0, 0],
            [-10], [0, 1], [0], [0], [0, 1, 1], [-3], [-7],
            [0], [0, 3], [0, 50], [0, 60], [0, 2], [0, 2075, 2225, 1, 100], [0, 1, 3, 3, 4, 2, 0, 2, 3], [0, 1],
            [0, 0, 1, 2095, 2195, 4, 4, 4, 1, 1, 0],
            [-7], [-3], [-2], [-3], [-2], [-3], [-7], [-12]])

    def test_the_line_has_all_seventeen_calls(self):
        self.assertEqual({call[0] for call in LINE}, set(range(17)))

    def test_what_is_handed_in_is_not_changed(self):
        calls = flat(LINE)
        copy = list(calls)
        answers(calls)
        self.assertEqual(calls, copy)
        self.assertEqual([type(number) for number in calls], [int] * len(copy))

    def test_what_is_handed_in_is_not_changed_for_a_while_either(self):
        calls = Unchanging(flat(LINE))
        self.assertEqual(answers(calls), answers(list(calls)))

    def test_the_same_twice(self):
        calls = flat(LINE)
        first = answers(calls)
        second = answers(calls)
        self.assertEqual(first, second)
        self.assertIsNot(first, second)

    def test_an_answer_that_is_changed_changes_no_later_one(self):
        calls = flat(LINE)
        first = answers(calls)
        copy = list(first)
        first.clear()
        self.assertEqual(answers(calls), copy)

    def test_the_house_is_new_at_the_beginning(self):
        strict = [rules(300, 1440, 180, 180, 2880, 1, (0,) * 8, (60, 0)), leg(0, 1, 2000, 2100), member(1)]
        ask(*strict)
        self.assertEqual(ask(check(1), delay(1, 0), fits(1, 0)), [[-3], [-7], [-7]])
        self.assertEqual(ask(unmet(), roster(1), shown(1), fill(1)), [[0], [-3], [-7], [-7]])
        self.assertEqual(ask(leg(0, 1, 2000, 2100), member(1), assign(1, 1), check(1)), [[0, 1], [0], [0], [0, 0, 0]])

    def test_whole_numbers_alone_come_back(self):
        told = answers(flat(LINE))
        self.assertIs(type(told), list)
        self.assertEqual({type(number) for number in told}, {int})

    def test_three_hundred_calls(self):
        # To and fro on each third day: 14 such days may lie in 60000 minutes.
        starts = [4320 * (1 + k // 2) + 200 * (k % 2) for k in range(60)]
        calls = [leg(k % 2, 1 - k % 2, start, start + 100) for k, start in enumerate(starts)]
        calls += [member(k) for k in range(1, 31)]
        calls += [assign(1 + k % 2, 1 + k // 2) for k in range(120)]
        calls += [rules(windows=(60000, 2800, 60000, 60000, 300, 200, 60, 60))]
        calls += [delay(1 + k % 60, 1) for k in range(88)] + [rules(windows=(60000, 2799))]
        told = ask(*calls)
        self.assertEqual(len(told), 300)
        self.assertEqual(told[60:299], [[0]] * 239)
        self.assertEqual(told[299], [0, 1, 2])

    def test_three_hundred_calls_of_all_kinds_within_seconds(self):
        starts = [4320 * (1 + k // 2) + 200 * (k % 2) for k in range(60)]
        calls = [rules(windows=(60000, 60000, 59999, 60000, 300, 300, 60, 60))]
        calls += [leg(k % 2, 1 - k % 2, start, start + 100) for k, start in enumerate(starts)]
        calls += [member(k, 0, k % 3) for k in range(1, 31)] + [fill(k) for k in range(1, 61)]
        several = [
            rules(windows=(60000, 60000, 20000, 20000, 300, 300, 60, 60)), delay(1, 1), fits(2, 0), fill(3),
            assign(1, 4), unassign(1, 1), assign(1, 1), check(30), swap(1, 4, 50000), flying(2, 0, 10000000),
            worst(3, 60000), roster(4), duties(5), unmet(), run(6), shown(60), leg(0, 1, 2000, 2100), member(31)]
        calls += (several * 9)[:300 - len(calls)]
        self.assertEqual((len(calls), {call[0] for call in calls}), (300, set(range(17))))
        begin = time.perf_counter()
        told = ask(*calls)
        self.assertLess(time.perf_counter() - begin, 5)
        self.assertEqual({len(answer) for answer in told[91:151]}, {13})

    def test_numbers_far_outside(self):
        far = 10 ** 12
        calls = [[place] + [number] * many + rows for number in (far, -far) for place, many, rows in (
            (0, 6, [1, number, 2, number, number]), (1, 4, [3, number, number, number]), (2, 3, []), (3, 2, []),
            (4, 2, []), (5, 1, []), (6, 3, []), (7, 2, []), (8, 2, []), (9, 1, []), (10, 3, []), (11, 2, []),
            (12, 1, []), (13, 1, []), (15, 1, []), (16, 1, []))]
        self.assertEqual(ask(*calls), [[-2]] * 32)


if __name__ == "__main__":
    unittest.main()
