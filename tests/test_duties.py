"""Point 13: duties."""

import unittest

from tests.talk import (ask, assign, at_member_edges, delay, duties, flier, granted, hops, lapped, leg, member,
                        roster, rules, unassign)


def told_of(times, *then):
    return granted(*flier(times), *then, duties(1))


class Refusals(unittest.TestCase):
    def test_ranges(self):
        self.assertEqual(at_member_edges(duties), [-2, -2, 0, -3, -3, 0, -2])

    def test_a_refusal_changes_nothing(self):
        told = ask(*flier([(2000, 2100)]), duties(2), duties(0), duties(1), roster(1))
        self.assertEqual(told[3:], [[-3], [-2], [0, 2000, 2100, 1, 100], [0, 1]])


class Cuts(unittest.TestCase):
    def test_one_leg(self):
        self.assertEqual(told_of([(2000, 2150)]), [2000, 2150, 1, 150])

    def test_a_gap_just_reached_and_just_not(self):
        self.assertEqual(told_of([(2000, 2100), (2400, 2550)]), [2000, 2100, 1, 100, 2400, 2550, 1, 150])
        self.assertEqual(told_of([(2000, 2100), (2399, 2550)]), [2000, 2550, 2, 251])

    def test_the_gap_of_the_rules(self):
        times = [(2000, 2100), (2600, 2700), (3200, 3300)]
        apart = [2000, 2100, 1, 100, 2600, 2700, 1, 100, 3200, 3300, 1, 100]
        self.assertEqual(told_of(times), apart)
        self.assertEqual(told_of(times, rules(gap=500)), apart)
        self.assertEqual(told_of(times, rules(gap=501)), [2000, 3300, 3, 300])
        self.assertEqual(told_of(times, rules(gap=501), rules()), apart)
        self.assertEqual(told_of(times, rules(gap=501), delay(3, 1)), [2000, 2700, 2, 200, 3201, 3301, 1, 100])

    def test_several_duties_of_several_legs(self):
        times = [(2000, 2100), (2110, 2200), (2300, 2350), (2700, 2800), (3500, 3600), (3650, 3800)]
        self.assertEqual(told_of(times), [2000, 2350, 3, 240, 2700, 2800, 1, 100, 3500, 3800, 2, 250])

    def test_minutes_are_those_of_the_legs_alone(self):
        self.assertEqual(told_of([(2000, 2010), (2300, 2310)], rules(before=100, after=50)), [1900, 2360, 2, 20])

    def test_legs_that_touch(self):
        self.assertEqual(told_of([(2000, 2100), (2100, 2200)]), [2000, 2200, 2, 200])


class Margins(unittest.TestCase):
    def test_before_and_after(self):
        times = [(2000, 2100), (2110, 2200), (3000, 3100)]
        self.assertEqual(told_of(times, rules(before=30)), [1970, 2200, 2, 190, 2970, 3100, 1, 100])
        self.assertEqual(told_of(times, rules(after=45)), [2000, 2245, 2, 190, 3000, 3145, 1, 100])
        self.assertEqual(told_of(times, rules(before=180, after=180)), [1820, 2380, 2, 190, 2820, 3280, 1, 100])

    def test_margins_do_not_cut(self):
        # The gap is between the legs, whatever the duties begin and end at.
        self.assertEqual(told_of([(2000, 2100), (2400, 2500)], rules(before=180, after=180)),
                         [1820, 2280, 1, 100, 2220, 2680, 1, 100])
        self.assertEqual(told_of([(2000, 2100), (2399, 2500)], rules(before=180, after=180)), [1820, 2680, 2, 201])

    def test_the_earliest_dep(self):
        self.assertEqual(told_of([(1440, 1500)], rules(before=180)), [1260, 1500, 1, 60])

    def test_the_latest_arr(self):
        calls = [leg(0, 1, 9999000, 10000000), member(1), assign(1, 1), rules(after=180)]
        self.assertEqual(granted(*calls, duties(1)), [9999000, 10000180, 1, 1000])


class BehindADelay(unittest.TestCase):
    def test_legs_that_overlap(self):
        self.assertEqual(granted(*lapped([(2000, 2200), (2100, 2300)]), duties(1)), [2000, 2300, 2, 400])
        self.assertEqual(granted(*lapped([(2000, 2200), (2000, 2200)]), duties(1)), [2000, 2200, 2, 400])

    def test_the_leg_next_before_cuts_also_where_another_one_lands_later(self):
        spans = [(2000, 3000), (2010, 2100)]
        self.assertEqual(granted(*lapped(spans), duties(1)), [2000, 2100, 2, 1090])
        self.assertEqual(granted(*lapped(spans + [(2400, 2500)]), duties(1)), [2000, 2100, 2, 1090, 2400, 2500, 1, 100])
        self.assertEqual(granted(*lapped(spans + [(2399, 2500)]), duties(1)), [2000, 2500, 3, 1191])

    def test_the_leg_next_before_by_places_where_deps_are_equal(self):
        self.assertEqual(granted(*lapped([(2000, 2500), (2000, 2100), (2400, 2450)]), duties(1)),
                         [2000, 2100, 2, 600, 2400, 2450, 1, 50])
        self.assertEqual(granted(*lapped([(2000, 2100), (2000, 2500), (2400, 2450)]), duties(1)), [2000, 2450, 3, 650])

    def test_the_end_is_the_last_legs_with_margins_too(self):
        calls = lapped([(2000, 3000), (2010, 2100), (2400, 2500)]) + [rules(before=20, after=50)]
        self.assertEqual(ask(*calls, duties(1))[-1], [0, 1980, 2150, 2, 1090, 2380, 2550, 1, 100])

    def test_duties_change_places(self):
        calls = flier([(2000, 2100), (2800, 2950)])
        told = ask(*calls, delay(1, 1440), duties(1), delay(1, -1440), duties(1))
        self.assertEqual(told[5:], [[0, 1], [0, 2800, 2950, 1, 150, 3440, 3540, 1, 100], [0],
                                    [0, 2000, 2100, 1, 100, 2800, 2950, 1, 150]])

    def test_a_delay_joins_and_parts(self):
        times = [(2000, 2100), (2400, 2500)]
        self.assertEqual(told_of(times, delay(1, 1)), [2001, 2500, 2, 200])
        self.assertEqual(told_of(times, delay(2, -1)), [2000, 2499, 2, 200])
        self.assertEqual(told_of(times, delay(2, -1), delay(1, -1)), [1999, 2099, 1, 100, 2399, 2499, 1, 100])


class Roster(unittest.TestCase):
    def test_empty(self):
        self.assertEqual(granted(leg(0, 1, 2000, 2100), member(1), duties(1)), [])
        self.assertEqual(told_of([(2000, 2100)], rules(before=10), unassign(1, 1)), [])

    def test_a_leg_less_may_part_a_duty(self):
        times = [(2000, 2100), (2200, 2300), (2450, 2500)]
        self.assertEqual(told_of(times), [2000, 2500, 3, 250])
        self.assertEqual(told_of(times, unassign(1, 2)), [2000, 2100, 1, 100, 2450, 2500, 1, 50])

    def test_of_each_member_its_own(self):
        calls = hops([(2000, 2100), (2200, 2300)]) + [member(1), member(2, 1), assign(1, 1), assign(2, 2)]
        self.assertEqual(ask(*calls, duties(1), duties(2))[6:], [[0, 2000, 2100, 1, 100], [0, 2200, 2300, 1, 100]])

    def test_more_than_eight_legs(self):
        times = [(2000 + 100 * k, 2050 + 100 * k) for k in range(8)] + [(4000, 4050)]
        told = ask(*flier(times), delay(9, -1200), duties(1))
        self.assertEqual(told[-1], [0, 2000, 2850, 9, 450])


if __name__ == "__main__":
    unittest.main()
