"""Point 5: check, and with it the duties, the windows, the run and the six kinds of faults."""

import unittest

from tests.talk import ask, assign, check, delay, fault, flier, last, leg, member, rules, unassign


def falling(*firsts):
    """Eight numbers for longest: these, and then the last of them on and on."""
    return tuple(firsts) + (firsts[-1],) * (8 - len(firsts))


class Call(unittest.TestCase):
    def test_ranges(self):
        for number, wanted in ((0, [-2]), (-1, [-2]), (1, [-3]), (1000000000, [-3]), (1000000001, [-2])):
            with self.subTest(number=number):
                self.assertEqual(last(check(number)), wanted)

    def test_no_member(self):
        self.assertEqual(last(member(1), check(2)), [-3])

    def test_an_empty_roster_keeps_the_rules(self):
        self.assertEqual(last(member(1), check(1)), [0, 0, 0])
        self.assertEqual(last(member(1), rules(300, 300, 180, 180, 2880, 1, (0,) * 8, (60, 0)), check(1)), [0, 0, 0])

    def test_check_changes_nothing(self):
        calls = flier([(2000, 2100), (2200, 2300)])
        self.assertEqual(ask(*calls, unassign(1, 1), check(1), check(1))[-2:], [[0, 1, 1], [0, 1, 1]])


class Place(unittest.TestCase):
    """Kind 1."""

    def test_the_base_for_the_first_leg(self):
        calls = [leg(3, 4, 2000, 2100), leg(4, 3, 2200, 2300), member(1, 3), assign(1, 1), assign(1, 2)]
        self.assertEqual(last(*calls, check(1)), [0, 0, 0])
        self.assertEqual(last(*calls, unassign(1, 1), check(1)), [0, 1, 1])

    def test_a_later_leg(self):
        times = [(2000, 2100), (2200, 2300), (2400, 2500), (2600, 2700)]
        self.assertEqual(fault(times, unassign(1, 3)), [1, 3])
        self.assertEqual(fault(times, unassign(1, 2)), [1, 2])

    def test_the_first_of_several(self):
        times = [(2000 + 200 * k, 2100 + 200 * k) for k in range(6)]
        self.assertEqual(fault(times, unassign(1, 5), unassign(1, 2)), [1, 2])

    def test_the_base_need_not_be_reached_again(self):
        calls = [leg(0, 1, 2000, 2100), leg(1, 2, 2200, 2300), member(1), assign(1, 1), assign(1, 2)]
        self.assertEqual(last(*calls, check(1)), [0, 0, 0])

    def test_equal_dep_by_places(self):
        # Leg 1 stands before leg 2, though it was given later and lands later.
        times = [(2000, 2100), (3000, 3050)]
        told = fault(times, delay(2, -1000))
        self.assertEqual(told, [2, 2])
        calls = [leg(1, 0, 3000, 3050), leg(0, 1, 2000, 2100), member(1), assign(1, 2), assign(1, 1), delay(1, -1000)]
        self.assertEqual(last(*calls, check(1)), [0, 1, 1])

    def test_the_number_is_that_in_the_roster_not_the_legs_place(self):
        calls = [leg(5, 6, 9000, 9100), leg(5, 6, 9000, 9100), leg(0, 1, 2000, 2100), leg(1, 0, 2200, 2300), member(1)]
        calls += [assign(1, 3), assign(1, 4), unassign(1, 3)]
        self.assertEqual(last(*calls, check(1)), [0, 1, 1])


class Turn(unittest.TestCase):
    """Kind 2."""

    def test_just_kept_and_just_broken(self):
        times = [(2000, 2100), (2150, 2200), (2260, 2300)]
        self.assertEqual(fault(times, rules(turn=50)), [0, 0])
        self.assertEqual(fault(times, rules(turn=51)), [2, 2])
        self.assertEqual(fault(times, rules(turn=51), delay(1, -1)), [0, 0])
        self.assertEqual(fault(times, rules(turn=60), delay(1, -10)), [0, 0])
        self.assertEqual(fault(times, rules(turn=61), delay(1, -11)), [2, 3])

    def test_overlapping_legs(self):
        self.assertEqual(fault([(2000, 2100), (2200, 2300)], delay(1, 100)), [0, 0])
        self.assertEqual(fault([(2000, 2100), (2200, 2300)], delay(1, 101)), [2, 2])
        self.assertEqual(fault([(2000, 2100), (2200, 2300)], delay(1, 200)), [2, 2])
        self.assertEqual(fault([(2000, 2100), (2200, 2300)], delay(1, 201)), [1, 1])

    def test_the_first_of_several(self):
        # The second leg departs while the first one is under way; the third behind the second, but before the first lands.
        calls = [leg(0, 1, 2000, 3000), leg(1, 0, 4000, 4100), leg(0, 1, 4200, 4300), member(1)]
        calls += [assign(1, 1), assign(1, 2), assign(1, 3), delay(2, -1440), delay(3, -1440), check(1)]
        self.assertEqual(ask(*calls)[-1], [0, 2, 2])

    def test_turn_is_asked_between_duties_too(self):
        times = [(2000, 2100), (2400, 2500)]
        self.assertEqual(fault(times, rules(turn=300)), [0, 0])
        self.assertEqual(fault([(2000, 2100), (2399, 2500)], rules(turn=300)), [2, 2])


class Length(unittest.TestCase):
    """Kind 3, and how duties are cut."""

    def test_just_kept_and_just_broken_for_each_number_of_legs(self):
        for many in range(1, 9):
            times = [(2000 + 100 * k, 2050 + 100 * k) for k in range(many)]
            length = 100 * many - 50
            kept = (1440,) * (many - 1) + (length,) * (9 - many)
            broken = (1440,) * (many - 1) + (length - 1,) * (9 - many)
            spare = (length,) * many + (0,) * (8 - many)
            with self.subTest(many=many):
                self.assertEqual(fault(times, rules(longest=kept)), [0, 0])
                self.assertEqual(fault(times, rules(longest=broken)), [3, 1])
                self.assertEqual(fault(times, rules(longest=spare)), [0, 0])

    def test_nine_legs(self):
        times = [(2000 + 100 * k, 2050 + 100 * k) for k in range(9)]
        self.assertEqual(last(*flier(times)), [-13])
        self.assertEqual(last(*flier(times[:8])), [0])
        late = times[:8] + [(3500, 3550)]
        self.assertEqual(fault(late), [0, 0])
        self.assertEqual(fault(late, delay(9, -451)), [3, 1])

    def test_nine_legs_in_the_second_duty(self):
        # The second duty ends at 3150; from 3450 on a leg begins a third one, with too little rest before it.
        times = [(2000, 2060)] + [(2400 + 100 * k, 2450 + 100 * k) for k in range(8)] + [(4500, 4550)]
        self.assertEqual(fault(times), [0, 0])
        self.assertEqual(fault(times, delay(10, -600)), [0, 0])
        self.assertEqual(fault(times, delay(10, -601)), [4, 3])
        self.assertEqual(fault(times, delay(10, -1050)), [4, 3])
        self.assertEqual(fault(times, delay(10, -1051)), [3, 2])

    def test_a_gap_just_reached_and_just_not(self):
        times = [(2000, 2100), (2400, 2500)]
        self.assertEqual(fault(times, rules(longest=(100,) * 8)), [0, 0])
        self.assertEqual(fault(times, rules(gap=301, longest=(100,) * 8)), [3, 1])
        self.assertEqual(fault(times, rules(longest=(100,) * 8), delay(2, -1)), [3, 1])
        self.assertEqual(fault([(2000, 2100), (3540, 3640)], rules(gap=1440, longest=(100,) * 8)), [0, 0])
        self.assertEqual(fault([(2000, 2100), (3539, 3639)], rules(gap=1440, longest=(100,) * 8)), [3, 1])

    def test_before_and_after_do_not_count_for_the_gap(self):
        times = [(2000, 2100), (2400, 2500)]
        self.assertEqual(fault(times, rules(before=100, after=0, longest=(200,) * 8)), [0, 0])
        self.assertEqual(fault(times, rules(before=0, after=100, longest=(200,) * 8)), [0, 0])

    def test_before_and_after_count_for_the_length(self):
        self.assertEqual(fault([(2000, 2100)], rules(before=180, after=170, longest=(450,) * 8)), [0, 0])
        self.assertEqual(fault([(2000, 2100)], rules(before=180, after=170, longest=(449,) * 8)), [3, 1])
        self.assertEqual(fault([(1440, 1540)], rules(before=180, after=0, longest=(280,) * 8)), [0, 0])
        self.assertEqual(fault([(1440, 1540)], rules(before=180, after=0, longest=(279,) * 8)), [3, 1])

    def test_the_first_of_several_duties(self):
        times = [(2000, 2100), (3000, 3110), (4000, 4120)]
        self.assertEqual(fault(times, rules(longest=(119,) * 8)), [3, 3])
        self.assertEqual(fault(times, rules(longest=(109,) * 8)), [3, 2])
        self.assertEqual(fault(times, rules(longest=(99,) * 8)), [3, 1])

    def test_longest_is_that_for_as_many_legs(self):
        times = [(2000, 2100), (2200, 2300), (4000, 4100)]
        self.assertEqual(fault(times, rules(longest=falling(400, 300, 0))), [0, 0])
        self.assertEqual(fault(times, rules(longest=falling(400, 299, 0))), [3, 1])
        self.assertEqual(fault(times, rules(longest=falling(99, 99, 0))), [3, 1])

    def test_overlapping_legs_are_of_an_earlier_kind(self):
        calls = [leg(0, 1, 2000, 3200), leg(1, 0, 3300, 3400), member(1)]
        calls += [assign(1, 1), assign(1, 2), delay(2, -1200), rules(longest=(0,) * 8), check(1)]
        self.assertEqual(last(*calls), [0, 2, 2])


class Rest(unittest.TestCase):
    """Kind 4."""

    def test_rest_just_kept_and_just_broken(self):
        times = [(2000, 2100), (2500, 2600), (3100, 3200)]
        self.assertEqual(fault(times, rules(rest=400)), [0, 0])
        self.assertEqual(fault(times, rules(rest=401)), [4, 2])
        self.assertEqual(fault(times, rules(rest=500), delay(1, -100)), [0, 0])
        self.assertEqual(fault(times, rules(rest=501), delay(1, -101)), [4, 3])

    def test_the_length_of_the_duty_before_is_the_least_rest(self):
        self.assertEqual(fault([(2000, 2500), (3000, 3010)]), [0, 0])
        self.assertEqual(last(*flier([(2000, 2500), (2999, 3010)])), [-14])
        self.assertEqual(fault([(2000, 2500), (3000, 3010)], rules(rest=500)), [0, 0])
        self.assertEqual(fault([(2000, 2500), (3000, 3010)], rules(rest=501)), [4, 2])
        self.assertEqual(fault([(2000, 2500), (3000, 3010)], rules(rest=499), delay(2, -1)), [4, 2])

    def test_the_length_of_the_later_duty_is_not_asked(self):
        self.assertEqual(fault([(2000, 2010), (2400, 3400)]), [0, 0])

    def test_before_and_after(self):
        # The first duty ends at 2130, its length is 150, and the second begins at 2480.
        times = [(2000, 2100), (2500, 2600)]
        self.assertEqual(fault(times, rules(before=20, after=30, rest=350)), [0, 0])
        self.assertEqual(fault(times, rules(before=20, after=30, rest=351)), [4, 2])
        self.assertEqual(fault(times, rules(before=21, after=30, rest=350)), [4, 2])
        self.assertEqual(fault(times, rules(before=20, after=31, rest=350)), [4, 2])
        # Its length with before and after: 100 + 80 + 70 = 250, and from 2170 to 2420 are 250.
        self.assertEqual(fault(times, rules(before=80, after=70)), [0, 0])
        self.assertEqual(fault(times, rules(before=81, after=70)), [4, 2])
        self.assertEqual(fault(times, rules(before=80, after=71)), [4, 2])

    def test_no_rest_within_a_duty(self):
        self.assertEqual(fault([(2000, 2100), (2399, 2500)], rules(rest=2880)), [0, 0])
        self.assertEqual(fault([(2000, 2100), (2400, 2500)], rules(rest=2880)), [4, 2])

    def test_no_rest_before_the_first_duty(self):
        self.assertEqual(fault([(1440, 1500)], rules(rest=2880)), [0, 0])

    def test_the_number_is_that_of_the_duty(self):
        times = [(2000, 2100), (2150, 2250), (3000, 3100), (3400, 3500)]
        self.assertEqual(fault(times, rules(rest=301)), [4, 3])


class Windows(unittest.TestCase):
    """Kind 5."""

    def test_just_kept_and_just_broken(self):
        times = [(2000, 2100), (2200, 2300)]
        self.assertEqual(fault(times, rules(windows=(300, 200))), [0, 0])
        self.assertEqual(fault(times, rules(windows=(300, 199))), [5, 1])
        self.assertEqual(fault(times, rules(windows=(299, 199))), [0, 0])
        self.assertEqual(fault(times, rules(windows=(299, 198))), [5, 1])

    def test_a_window_shorter_than_a_leg(self):
        self.assertEqual(fault([(2000, 2100)], rules(windows=(60, 60))), [0, 0])
        self.assertEqual(fault([(2000, 2100)], rules(windows=(60, 59))), [5, 1])

    def test_a_window_longer_than_the_whole_roster(self):
        times = [(2000, 2100), (2500, 2700), (4000, 4050)]
        for w in (2050, 3000, 4050, 4051, 60000):
            with self.subTest(w=w):
                self.assertEqual(fault(times, rules(windows=(w, 350))), [0, 0])
                self.assertEqual(fault(times, rules(windows=(w, 349))), [5, 1])

    def test_a_window_that_begins_within_a_leg(self):
        # 300 minutes hold most if they end with the second leg, and so begin within the first one.
        times = [(2000, 2200), (2250, 2400)]
        self.assertEqual(fault(times, rules(windows=(300, 250))), [0, 0])
        self.assertEqual(fault(times, rules(windows=(300, 249))), [5, 1])

    def test_a_window_that_ends_within_a_leg(self):
        times = [(2000, 2150), (2200, 2400), (3500, 3700)]
        self.assertEqual(fault(times, rules(windows=(300, 250))), [0, 0])
        self.assertEqual(fault(times, rules(windows=(300, 249))), [5, 1])

    def test_the_greatest_lies_in_the_middle(self):
        times = [(2000, 2060), (2900, 3000), (3050, 3150), (6000, 6060)]
        self.assertEqual(fault(times, rules(windows=(250, 200))), [0, 0])
        self.assertEqual(fault(times, rules(windows=(250, 199))), [5, 1])
        self.assertEqual(fault(times, rules(windows=(240, 190))), [0, 0])
        self.assertEqual(fault(times, rules(windows=(240, 189))), [5, 1])

    def test_nothing_may_be_flown(self):
        self.assertEqual(fault([(2000, 2001)], rules(windows=(60, 0))), [5, 1])
        self.assertEqual(fault([(2000, 2001)], rules(windows=(60, 1))), [0, 0])

    def test_several_windows(self):
        times = [(2000, 2100), (2200, 2300)]
        good = (300, 200)
        for broken in range(1, 5):
            for many in range(broken, 5):
                row = good * (broken - 1) + (60, 59) * (many - broken + 1)
                with self.subTest(row=row):
                    self.assertEqual(fault(times, rules(windows=row)), [5, broken])
        self.assertEqual(fault(times, rules(windows=good * 4)), [0, 0])

    def test_windows_are_not_ordered(self):
        times = [(2000, 2100), (2200, 2300)]
        self.assertEqual(fault(times, rules(windows=(60000, 200, 60, 59, 300, 199))), [5, 2])

    def test_at_the_end_of_all_moments(self):
        self.assertEqual(fault([(9999800, 10000000)], rules(windows=(60000, 200))), [0, 0])
        self.assertEqual(fault([(9999800, 10000000)], rules(windows=(60000, 199))), [5, 1])


class Run(unittest.TestCase):
    """Kind 6, and the days that a duty touches."""

    def test_just_kept_and_just_broken(self):
        times = [(1440 * d + 600, 1440 * d + 700) for d in (1, 2, 3)]
        self.assertEqual(fault(times, rules(days=3)), [0, 0])
        self.assertEqual(fault(times, rules(days=2)), [6, 3])
        self.assertEqual(fault(times, rules(days=1)), [6, 3])

    def test_a_free_day_ends_the_run(self):
        times = [(1440 * d + 600, 1440 * d + 700) for d in (1, 2, 4, 5, 6, 8)]
        self.assertEqual(fault(times, rules(days=3)), [0, 0])
        self.assertEqual(fault(times, rules(days=2)), [6, 3])

    def test_the_greatest_run_comes_first(self):
        times = [(1440 * d + 600, 1440 * d + 700) for d in (1, 2, 3, 5, 6)]
        self.assertEqual(fault(times, rules(days=2)), [6, 3])

    def test_two_duties_on_one_day(self):
        times = [(1440 * 5, 1440 * 5 + 100), (1440 * 5 + 400, 1440 * 5 + 500)]
        self.assertEqual(fault(times, rules(days=1)), [0, 0])

    def test_a_duty_that_ends_at_midnight(self):
        midnight = 1440 * 3
        self.assertEqual(fault([(midnight - 100, midnight)], rules(days=1)), [0, 0])
        self.assertEqual(fault([(midnight - 100, midnight + 1)], rules(days=1)), [6, 2])
        self.assertEqual(fault([(midnight - 100, midnight - 30)], rules(after=30, days=1)), [0, 0])
        self.assertEqual(fault([(midnight - 100, midnight - 30)], rules(after=31, days=1)), [6, 2])

    def test_a_duty_that_begins_at_midnight(self):
        midnight = 1440 * 3
        self.assertEqual(fault([(midnight, midnight + 100)], rules(days=1)), [0, 0])
        self.assertEqual(fault([(midnight - 1, midnight + 100)], rules(days=1)), [6, 2])
        self.assertEqual(fault([(midnight + 20, midnight + 100)], rules(before=20, days=1)), [0, 0])
        self.assertEqual(fault([(midnight + 20, midnight + 100)], rules(before=21, days=1)), [6, 2])

    def test_day_0(self):
        self.assertEqual(fault([(1440, 1500)], rules(before=0, days=1)), [0, 0])
        self.assertEqual(fault([(1440, 1500)], rules(before=1, days=1)), [6, 2])

    def test_a_duty_that_touches_two_days_and_its_neighbours(self):
        # Days 2 and 3 by the first duty, day 4 by the second one.
        times = [(1440 * 3 - 50, 1440 * 3 + 50), (1440 * 4 + 600, 1440 * 4 + 700)]
        self.assertEqual(fault(times, rules(days=3)), [0, 0])
        self.assertEqual(fault(times, rules(days=2)), [6, 3])

    def test_days_between_legs_of_one_duty_are_touched(self):
        # A duty may touch three days only if it is too long already: kind 3 is told.
        times = [(2000, 2100), (3500, 3600), (4900, 5000)]
        self.assertEqual(fault(times, rules(gap=1440, days=1)), [3, 1])


class Order(unittest.TestCase):
    """Several things wrong at once: the kinds go first, then the first of a kind."""

    def test_kinds_go_first(self):
        times = [(2000, 2100), (2110, 2200), (2600, 2700), (3950, 4000)]
        strict = {"turn": 11, "rest": 401, "days": 1, "longest": (199,) * 8, "windows": (60, 59)}
        self.assertEqual(fault(times, rules(**strict), unassign(1, 3)), [1, 3])
        self.assertEqual(fault(times, rules(**strict)), [2, 2])
        strict["turn"] = 10
        self.assertEqual(fault(times, rules(**strict)), [3, 1])
        strict["longest"] = (200,) * 8
        self.assertEqual(fault(times, rules(**strict)), [4, 2])
        strict["rest"] = 400
        self.assertEqual(fault(times, rules(**strict)), [5, 1])
        strict["windows"] = (60, 60)
        self.assertEqual(fault(times, rules(**strict)), [6, 2])
        strict["days"] = 2
        self.assertEqual(fault(times, rules(**strict)), [0, 0])

    def test_a_later_leg_of_an_earlier_kind(self):
        # Leg 2 departs too soon, leg 4 from the wrong airport.
        calls = [leg(0, 1, 2000, 2100), leg(1, 0, 2110, 2200), leg(0, 1, 2300, 2400), leg(1, 0, 2500, 2600),
                 leg(0, 1, 2700, 2800), member(1), *[assign(1, k) for k in range(1, 6)]]
        told = ask(*calls, rules(turn=20), unassign(1, 4), check(1))
        self.assertEqual(told[-3:], [[0, 1], [0], [0, 1, 4]])

    def test_a_later_duty_of_an_earlier_kind(self):
        # Duty 2 has too little rest before it, duty 3 is too long.
        times = [(2000, 2100), (2400, 2500), (3500, 3700)]
        self.assertEqual(fault(times, rules(rest=301, longest=(199,) * 8)), [3, 3])
        self.assertEqual(fault(times, rules(rest=301, longest=(200,) * 8)), [4, 2])

    def test_overlap_and_equal_dep(self):
        calls = [leg(0, 1, 2000, 2100), leg(1, 0, 3000, 3100), leg(0, 1, 4000, 4100), member(1)]
        calls += [assign(1, 1), assign(1, 2), assign(1, 3), delay(2, -1000), delay(3, -1000)]
        self.assertEqual(ask(*calls, check(1))[-1], [0, 2, 2])
        self.assertEqual(ask(*calls, delay(3, -1000), check(1))[-1], [0, 2, 2])
        self.assertEqual(ask(*calls, delay(3, -1000), delay(1, 1), check(1))[-1], [0, 1, 1])


if __name__ == "__main__":
    unittest.main()
