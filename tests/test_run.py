"""Point 15: run."""

import unittest

from tests.talk import (ask, assign, at_member_edges, delay, flier, granted, hops, lapped, leg, member, roster, rules,
                        run, unassign)

NOON = 720


def on_days(*days):
    """A leg of an hour around the noon of each of these days."""
    return [(1440 * day + NOON, 1440 * day + NOON + 60) for day in days]


def told_of(times, *then):
    return granted(*flier(times), *then, run(1))[0]


class Refusals(unittest.TestCase):
    def test_ranges(self):
        self.assertEqual(at_member_edges(run), [-2, -2, 0, -3, -3, 0, -2])

    def test_a_refusal_changes_nothing(self):
        self.assertEqual(ask(*flier(on_days(1, 2)), run(2), run(0), run(1), roster(1))[5:],
                         [[-3], [-2], [0, 2], [0, 1, 2]])


class Days(unittest.TestCase):
    def test_empty(self):
        self.assertEqual(granted(leg(0, 1, 2000, 2100), member(1), run(1)), [0])
        self.assertEqual(told_of(on_days(1), unassign(1, 1)), 0)

    def test_days_that_touch(self):
        for days, wanted in (((1,), 1), ((1, 2), 2), ((3, 4, 5, 6), 4), ((1, 1, 2), 2)):
            with self.subTest(days=days):
                times = [(dep + 70 * k, arr + 70 * k) for k, (dep, arr) in enumerate(on_days(*days))]
                self.assertEqual(told_of(times), wanted)

    def test_days_apart(self):
        for days, wanted in (((1, 3), 1), ((1, 2, 4), 2), ((1, 3, 4), 2), ((1, 3, 4, 5, 7, 8), 3), ((2, 5, 9), 1),
                             ((1, 2, 3, 5, 6), 3), ((1, 2, 4, 5, 6), 3), ((1, 2, 4, 5), 2)):
            with self.subTest(days=days):
                self.assertEqual(told_of(on_days(*days)), wanted)

    def test_a_leg_less(self):
        self.assertEqual(told_of(on_days(1, 2, 3, 4), unassign(1, 2)), 2)

    def test_more_than_thirty(self):
        self.assertEqual(told_of(on_days(*range(1, 31))), 30)
        calls = flier(on_days(*range(1, 31), 32))
        self.assertEqual(ask(*calls, delay(31, -1440), run(1))[-2:], [[0, 1], [0, 31]])

    def test_far_days(self):
        self.assertEqual(told_of([(9999000, 10000000)]), 2)
        self.assertEqual(told_of([(9997919, 9998000)]), 2)
        self.assertEqual(told_of([(9997920, 9998000)]), 1)


class Midnight(unittest.TestCase):
    def test_an_end_at_midnight(self):
        self.assertEqual(told_of([(2000, 2880)]), 1)
        self.assertEqual(told_of([(2000, 2881)]), 2)

    def test_a_beginning_at_midnight(self):
        self.assertEqual(told_of([(2880, 3000)]), 1)
        self.assertEqual(told_of([(2879, 3000)]), 2)

    def test_a_whole_day(self):
        times = [(2880, 3000), (3290, 3500), (3790, 4320)]
        self.assertEqual(told_of(times), 1)
        self.assertEqual(told_of(times, rules(after=1)), 2)
        self.assertEqual(told_of(times, rules(before=1)), 2)
        self.assertEqual(told_of(times, rules(before=1, after=1)), 3)

    def test_before_and_after_count(self):
        times = [(2880, 4000)]
        for before, after, wanted in ((0, 0, 1), (1, 0, 2), (0, 180, 1), (180, 180, 2)):
            with self.subTest(before=before, after=after):
                self.assertEqual(told_of(times, rules(before=before, after=after)), wanted)
        times = [(3200, 4300)]
        for before, after, wanted in ((0, 20, 1), (0, 21, 2), (180, 20, 1)):
            with self.subTest(before=before, after=after):
                self.assertEqual(told_of(times, rules(before=before, after=after)), wanted)

    def test_after_closes_a_gap_of_days(self):
        # Day 1 up to midnight, then day 3.
        times = [(2000, 2880), (4320, 4400)]
        self.assertEqual(told_of(times), 1)
        self.assertEqual(told_of(times, rules(after=1)), 3)
        self.assertEqual(told_of(times, rules(before=1)), 3)

    def test_one_duty_over_many_days(self):
        # Below the gap it is all one duty, which touches the day between its legs too.
        for dep, wanted in ((4319, 3), (4320, 1)):
            with self.subTest(dep=dep):
                self.assertEqual(told_of([(2160, 2880), (5000, 5080)], rules(gap=1440), delay(2, dep - 5000)), wanted)


class BehindADelay(unittest.TestCase):
    def test_a_day_more_and_a_day_less(self):
        times = on_days(1, 2, 4)
        self.assertEqual(told_of(times, delay(3, -1440)), 3)
        self.assertEqual(told_of(times, delay(2, 1440)), 2)
        self.assertEqual(told_of(times, delay(1, 1440), delay(1, 1440)), 3)

    def test_legs_that_overlap(self):
        self.assertEqual(granted(*lapped([(2700, 2800), (2750, 2900), (2760, 2770)]), run(1)), [1])
        self.assertEqual(granted(*lapped([(2700, 2800), (2750, 2900), (2760, 2881)]), run(1)), [2])

    def test_an_earlier_leg_that_lands_on_a_later_day(self):
        # The duty ends with its last leg, so the day in which another one lands isn't touched by it.
        self.assertEqual(granted(*lapped([(4000, 5000), (4010, 4100)]), run(1)), [1])
        self.assertEqual(granted(*lapped([(4000, 5000), (4010, 4321)]), run(1)), [2])

    def test_duties_that_overlap(self):
        # With their margins the first ends behind the beginning of the second.
        for spans, wanted in (([(2000, 2500), (2800, 2850)], 2), ([(2000, 2200), (2500, 2600)], 1),
                              ([(2000, 2760), (3060, 3200)], 2), ([(2000, 2720), (3030, 3100)], 2),
                              ([(2000, 2720), (3030, 3100), (3400, 4300)], 3)):
            with self.subTest(spans=spans):
                self.assertEqual(granted(*lapped(spans), rules(before=180, after=180), run(1)), [wanted])

    def test_duties_that_overlap_and_then_days_apart(self):
        spans = [(2000, 3000), (2010, 2100), (2400, 2500), (5760, 5800), (7200, 7300)]
        self.assertEqual(granted(*lapped(spans), rules(before=180, after=180), run(1)), [3])
        self.assertEqual(granted(*lapped(spans), run(1)), [2])


class Roster(unittest.TestCase):
    def test_of_each_member_its_own(self):
        calls = hops(on_days(1, 2, 3)) + [member(1), member(2, 1), assign(1, 1), assign(2, 2), assign(2, 3)]
        self.assertEqual(ask(*calls, run(1), run(2))[8:], [[0, 1], [0, 2]])

    def test_days_may_be_fewer(self):
        self.assertEqual(ask(*flier(on_days(1, 2, 3)), rules(days=1), run(1))[-2:], [[0, 1], [0, 3]])


if __name__ == "__main__":
    unittest.main()
