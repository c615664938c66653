"""Point 7: delay."""

import unittest

from tests.talk import ask, assign, check, delay, fault, fits, flier, has, hops, last, leg, member, rules, unassign


class Refusals(unittest.TestCase):
    def test_ranges(self):
        calls = [leg(0, 1, 5000, 5100)]
        for place, z, wanted in ((0, 0, [-2]), (61, 0, [-2]), (60, 0, [-7]), (2, 0, [-7]), (1, -1440, [0]),
                                 (1, 1440, [0]), (1, -1441, [-2]), (1, 1441, [-2]), (2, 1441, [-2])):
            with self.subTest(place=place, z=z):
                self.assertEqual(last(*calls, delay(place, z)), wanted)

    def test_no_leg_at_all(self):
        self.assertEqual(last(delay(1, 0)), [-7])

    def test_dep_below_1440(self):
        self.assertEqual(last(leg(0, 1, 2000, 2100), delay(1, -560)), [0])
        self.assertEqual(last(leg(0, 1, 2000, 2100), delay(1, -561)), [-5])

    def test_arr_above_10000000(self):
        self.assertEqual(last(leg(0, 1, 9999000, 9999100), delay(1, 900)), [0])
        self.assertEqual(last(leg(0, 1, 9999000, 9999100), delay(1, 901)), [-5])

    def test_a_refusal_changes_nothing(self):
        calls = [leg(0, 1, 2000, 2100), delay(1, -561), delay(1, -560), delay(1, -1)]
        self.assertEqual(ask(*calls)[1:], [[-5], [0], [-5]])
        calls = [leg(0, 1, 9999000, 9999100), delay(1, 901), delay(1, 900), delay(1, 1)]
        self.assertEqual(ask(*calls)[1:], [[-5], [0], [-5]])


class Done(unittest.TestCase):
    def test_dep_and_arr_both_move(self):
        times = [(2000, 2100), (2200, 2300), (2400, 2500)]
        self.assertEqual(fault(times, delay(2, 100)), [0, 0])
        self.assertEqual(fault(times, delay(2, 101)), [2, 3])
        self.assertEqual(fault(times, delay(2, -100)), [0, 0])
        self.assertEqual(fault(times, delay(2, -101)), [2, 2])

    def test_delays_add_up(self):
        times = [(2000, 2100), (2200, 2300)]
        self.assertEqual(fault(times, delay(1, 60), delay(1, 40)), [0, 0])
        self.assertEqual(fault(times, delay(1, 60), delay(1, 41)), [2, 2])
        self.assertEqual(fault(times, delay(1, 500), delay(1, -500)), [0, 0])

    def test_no_delay(self):
        self.assertEqual(last(*flier([(2000, 2100)]), delay(1, 0)), [0])

    def test_a_delay_that_reorders_a_roster(self):
        times = [(2000, 2100), (2200, 2300), (2400, 2500)]
        self.assertEqual(fault(times, delay(1, 600)), [1, 1])
        self.assertEqual(fault(times, delay(3, -600)), [1, 2])
        self.assertEqual(last(*flier(times), delay(1, 600)), [0, 1])
        # The first and the third leg go the same way, and so may take each other's time.
        self.assertEqual(fault(times, delay(1, 400), delay(3, -400)), [0, 0])
        self.assertEqual(fault(times, delay(1, 400), delay(3, -400), delay(1, -101)), [2, 3])

    def test_a_delay_that_makes_deps_equal(self):
        times = [(2000, 2100), (2200, 2300)]
        self.assertEqual(fault(times, delay(1, 200)), [2, 2])
        self.assertEqual(fault(times, delay(1, 201)), [1, 1])
        self.assertEqual(fault(times, delay(2, -200)), [2, 2])
        self.assertEqual(fault(times, delay(2, -201)), [1, 1])

    def test_all_who_have_the_leg_are_late(self):
        calls = hops([(2000, 2100), (2200, 2300)]) + [member(7), member(3), member(5)]
        calls += [assign(7, 1), assign(7, 2), assign(3, 1), assign(5, 1), assign(5, 2)]
        self.assertEqual(ask(*calls, delay(1, 101), delay(1, -1))[-2:], [[0, 7, 5], [0]])

    def test_ids_of_members_who_have_not_the_leg(self):
        calls = hops([(2000, 2100), (2200, 2300)]) + [leg(5, 6, 9000, 9100), member(8), member(4), member(6, 5)]
        calls += [assign(4, 1), assign(4, 2), assign(8, 1), assign(8, 2), unassign(4, 1), assign(6, 3)]
        self.assertEqual(ask(*calls, delay(3, 10), delay(1, 101), delay(3, -10))[-3:], [[0, 4], [0, 8, 4], [0, 8, 4]])

    def test_nobody_loses_a_leg(self):
        calls = flier([(2000, 2100), (2200, 2300)])
        self.assertEqual(ask(*calls, delay(1, 500), has(1, 1), has(1, 2))[-3:], [[0, 1], [0], [0]])

    def test_the_leg_has_moved_for_those_who_get_it_later(self):
        calls = hops([(2000, 2100), (2200, 2300)]) + [member(1), delay(1, 101), assign(1, 1), assign(1, 2)]
        self.assertEqual(last(*calls), [-12])
        self.assertEqual(ask(*calls, fits(2, 0), delay(2, 1), fits(2, 0))[-3:], [[0], [0], [0, 1]])

    def test_a_line_of_delays_goes_beyond_z(self):
        calls = [leg(0, 1, 1440, 1500), member(1), assign(1, 1), rules(days=1)]
        self.assertEqual(ask(*calls, *[delay(1, 1440)] * 5, *[delay(1, -1440)] * 6)[-11:], [[0]] * 10 + [[-5]])

    def test_check_behind_a_delay(self):
        self.assertEqual(last(*flier([(2000, 2100), (2200, 2300)]), delay(2, -150), check(1)), [0, 2, 2])


if __name__ == "__main__":
    unittest.main()
