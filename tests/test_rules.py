"""Point 0: rules."""

import unittest

from tests.talk import EIGHT, ask, assign, check, fault, flier, has, hops, last, leg, member, rules


class Ranges(unittest.TestCase):
    def test_each_plain_number_at_its_ends_and_beyond(self):
        ranges = {"turn": (0, 300), "gap": (300, 1440), "before": (0, 180), "after": (0, 180),
                  "rest": (0, 2880), "days": (1, 30)}
        for name, (least, greatest) in ranges.items():
            for number, wanted in ((least, [0]), (greatest, [0]), (least - 1, [-2]), (greatest + 1, [-2]),
                                   (-10 ** 12, [-2]), (10 ** 12, [-2])):
                with self.subTest(name=name, number=number):
                    self.assertEqual(last(rules(**{name: number})), wanted)

    def test_longest_is_eight_numbers(self):
        for many in (0, 1, 7, 9, 16, 30):
            with self.subTest(many=many):
                self.assertEqual(last(rules(longest=(1440,) * many)), [-2])
        self.assertEqual(last(rules(longest=EIGHT)), [0])

    def test_each_of_longest_at_its_ends_and_beyond(self):
        self.assertEqual(last(rules(longest=(0,) * 8)), [0])
        for k in range(8):
            for number in (-1, 1441):
                row = [1440] * k + [number] + [0] * (7 - k)
                with self.subTest(row=row):
                    self.assertEqual(last(rules(longest=row)), [-2])

    def test_windows_are_none_to_four_pairs(self):
        for many in range(31):
            row = ((60, 0) * 15)[:many]
            with self.subTest(many=many):
                self.assertEqual(last(rules(windows=row)), [0] if many in (0, 2, 4, 6, 8) else [-2])

    def test_each_of_windows_at_its_ends_and_beyond(self):
        for pair in range(4):
            for w, most, wanted in ((60, 0, [0]), (60000, 60000, [0]), (59, 0, [-2]), (60001, 0, [-2]),
                                    (60, -1, [-2]), (60, 60001, [-2])):
                row = (100, 50) * pair + (w, most) + (100, 50) * (3 - pair)
                with self.subTest(row=row):
                    self.assertEqual(last(rules(windows=row)), wanted)

    def test_w_may_not_be_as_small_as_most_nor_most_be_held_to_w(self):
        self.assertEqual(last(rules(windows=(0, 60))), [-2])
        self.assertEqual(last(rules(windows=(60, 59))), [0])


class Refusals(unittest.TestCase):
    def test_rising_longest(self):
        for k in range(1, 8):
            row = [700] * k + [701] + [700] * (7 - k)
            with self.subTest(row=row):
                self.assertEqual(last(rules(longest=row)), [-5])
        self.assertEqual(last(rules(longest=(700,) * 8)), [0])
        self.assertEqual(last(rules(longest=(8, 7, 6, 5, 4, 3, 2, 1))), [0])

    def test_rising_back_to_an_earlier_number(self):
        self.assertEqual(last(rules(longest=(900, 500, 900, 400, 400, 400, 400, 400))), [-5])

    def test_range_comes_before_rising(self):
        self.assertEqual(last(rules(longest=(0, 1, 1, 1, 1, 1, 1, 1), windows=(60,))), [-2])
        self.assertEqual(last(rules(days=0, longest=(0, 1, 1, 1, 1, 1, 1, 1))), [-2])

    def test_a_refusal_changes_nothing(self):
        times = [(2000, 2100), (2100, 2200)]
        strict = {"turn": 1, "before": 180, "longest": (1,) * 8, "windows": (60, 0), "days": 1}
        self.assertEqual(fault(times, rules(**strict)), [2, 2])
        self.assertEqual(fault(times, rules(**{**strict, "longest": (0,) * 7 + (1,)})), [0, 0])
        self.assertEqual(fault(times, rules(**{**strict, "days": 31})), [0, 0])


class First(unittest.TestCase):
    """The rules that a house begins with."""

    def test_turn_is_0(self):
        self.assertEqual(fault([(2000, 2100), (2100, 2200)]), [0, 0])

    def test_gap_is_300(self):
        # Within a duty no rest is asked for; between two duties it is as long as the first of them.
        self.assertEqual(last(*hops([(2000, 2301), (2600, 2700)]), member(1), assign(1, 1), assign(1, 2)), [0])
        self.assertEqual(last(*hops([(2000, 2301), (2601, 2700)]), member(1), assign(1, 1), assign(1, 2)), [-14])
        self.assertEqual(last(*hops([(2000, 2300), (2600, 2700)]), member(1), assign(1, 1), assign(1, 2)), [0])

    def test_before_and_after_are_0(self):
        # A duty of 1440 minutes is just allowed, of 1441 it is not.
        self.assertEqual(last(*flier([(2000, 2600), (2700, 3440)])), [0])
        self.assertEqual(last(*flier([(2000, 2600), (2700, 3441)])), [-13])

    def test_rest_is_0(self):
        # Only the length of the duty before is asked for.
        self.assertEqual(last(*flier([(2000, 2300), (2600, 2700)])), [0])

    def test_days_is_30(self):
        # One duty a day, to and fro, for 30 days and then for 31.
        times = [(1440 * d, 1440 * d + 100) for d in range(1, 32)]
        told = ask(*flier(times))
        self.assertEqual(told[-31:], [[0]] * 30 + [[-16]])

    def test_each_longest_is_1440(self):
        for many in range(1, 9):
            starts = [2000 + 180 * k for k in range(many)]
            inner = [(t, t + 60) for t in starts[:-1]]
            end = 2000 + 1440
            # The last leg may not be longer than 1200, so it departs late enough.
            final = (max(starts[-1], 2250), end) if many > 1 else (2000, 3200)
            with self.subTest(many=many):
                self.assertEqual(last(*flier(inner + [final])), [0])
                if many > 1:
                    self.assertEqual(last(*flier(inner + [(final[0], end + 1)])), [-13])

    def test_there_are_no_windows(self):
        self.assertEqual(last(*flier([(2000, 2720), (2720, 3440)])), [0])


class Answer(unittest.TestCase):
    def test_ids_of_broken_rosters_in_the_members_order(self):
        calls = [leg(0, 1, 2000, 2100), leg(0, 1, 2000, 2500)]
        calls += [member(9), member(3), member(7), member(5)]
        calls += [assign(9, 2), assign(3, 1), assign(5, 2)]
        self.assertEqual(last(*calls, rules(longest=(499,) * 8)), [0, 9, 5])
        self.assertEqual(last(*calls, rules(longest=(500,) * 8)), [0])
        self.assertEqual(last(*calls, rules(longest=(99,) * 8)), [0, 9, 3, 5])

    def test_order_is_not_that_of_ranks(self):
        calls = [leg(0, 1, 2000, 2500), member(4, 0, 2), member(8, 0, 0), member(6, 0, 1)]
        calls += [assign(6, 1), assign(8, 1), assign(4, 1)]
        self.assertEqual(last(*calls, rules(longest=(0,) * 8)), [0, 4, 8, 6])

    def test_empty_rosters_keep_the_strictest_rules(self):
        strict = rules(300, 300, 180, 180, 2880, 1, (0,) * 8, (60, 0))
        self.assertEqual(last(member(1), strict), [0])

    def test_nobody_loses_a_leg(self):
        calls = flier([(2000, 2500)])
        self.assertEqual(ask(*calls, rules(longest=(0,) * 8), check(1), has(1, 1))[-3:], [[0, 1], [0, 3, 1], [0]])

    def test_the_rules_hold_from_then_on_until_told_anew(self):
        calls = flier([(2000, 2500)])
        told = ask(*calls, rules(longest=(0,) * 8), rules(), check(1), rules(windows=(60, 59)), check(1))
        self.assertEqual(told[-4:], [[0], [0, 0, 0], [0, 1], [0, 5, 1]])

    def test_each_number_of_the_rules_is_told_by_its_own_place(self):
        times = [(2000, 2100), (2150, 2300), (3000, 3100)]
        self.assertEqual(fault(times, rules(turn=50)), [0, 0])
        self.assertEqual(fault(times, rules(turn=51)), [2, 2])
        # With a gap of 701 there is one duty of 1100 minutes; with 700 there are two.
        self.assertEqual(fault(times, rules(gap=700, longest=(300,) * 8)), [0, 0])
        self.assertEqual(fault(times, rules(gap=701, longest=(300,) * 8)), [3, 1])
        self.assertEqual(fault(times, rules(before=20, after=30, longest=(350,) * 8)), [0, 0])
        self.assertEqual(fault(times, rules(before=21, after=30, longest=(350,) * 8)), [3, 1])
        self.assertEqual(fault(times, rules(before=20, after=31, longest=(350,) * 8)), [3, 1])
        self.assertEqual(fault(times, rules(rest=700)), [0, 0])
        self.assertEqual(fault(times, rules(rest=701)), [4, 2])
        self.assertEqual(fault(times, rules(days=2)), [0, 0])
        self.assertEqual(fault(times, rules(days=1)), [6, 2])
        self.assertEqual(fault(times, rules(longest=(300, 299, 0, 0, 0, 0, 0, 0))), [3, 1])
        self.assertEqual(fault(times, rules(longest=(300, 300, 0, 0, 0, 0, 0, 0))), [0, 0])


if __name__ == "__main__":
    unittest.main()
