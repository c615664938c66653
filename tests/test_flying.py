"""Point 10: flying."""

import unittest

from tests.talk import ask, assign, delay, flier, flying, granted, hops, lapped, last, leg, member, roster, unassign


def flown(times, t, w):
    return granted(*flier(times), flying(1, t, w))[0]


class Refusals(unittest.TestCase):
    def test_ranges(self):
        calls = flier([(2000, 2100)], number=1000000000) + [member(1)]
        for number, t, w, wanted in (
                (0, 0, 0, [-2]), (1, 0, 0, [0, 0]), (1000000000, 0, 10000000, [0, 100]), (1000000001, 0, 0, [-2]),
                (1, -1, 0, [-2]), (1, 10000000, 0, [0, 0]), (1, 10000001, 0, [-2]), (1, 0, -1, [-2]),
                (1, 10000000, 10000000, [0, 0]), (1, 0, 10000001, [-2]), (2, 0, 0, [-3]), (999999999, 0, 0, [-3])):
            with self.subTest(number=number, t=t, w=w):
                self.assertEqual(last(*calls, flying(number, t, w)), wanted)

    def test_a_range_comes_before_a_member(self):
        self.assertEqual(ask(flying(1, -1, 0), flying(1, 0, 10000001), flying(1, 0, 0)), [[-2], [-2], [-3]])

    def test_a_refusal_changes_nothing(self):
        told = ask(*flier([(2000, 2100)]), flying(2, 0, 0), flying(1, -1, 0), flying(1, 2010, 20), roster(1))
        self.assertEqual(told[3:], [[-3], [-2], [0, 20], [0, 1]])


class OneLeg(unittest.TestCase):
    def test_no_minutes(self):
        for t in (0, 1999, 2000, 2050, 2100, 10000000):
            with self.subTest(t=t):
                self.assertEqual(flown([(2000, 2100)], t, 0), 0)

    def test_a_window_at_each_side(self):
        for t, w, wanted in ((2000, 100, 100), (1999, 102, 100), (0, 10000000, 100),
                             (2050, 10, 10), (2000, 99, 99), (2001, 99, 99), (2001, 100, 99),
                             (2050, 1000, 50), (1950, 100, 50),
                             (1950, 50, 0), (1950, 51, 1), (2100, 50, 0), (2099, 50, 1),
                             (0, 1999, 0), (0, 2000, 0), (0, 2001, 1), (3000, 10, 0)):
            with self.subTest(t=t, w=w):
                self.assertEqual(flown([(2000, 2100)], t, w), wanted)

    def test_at_the_last_moment(self):
        calls = [leg(0, 1, 9999000, 10000000), member(1), assign(1, 1)]
        for t, w, wanted in ((9999990, 10000000, 10), (9999990, 5, 5), (10000000, 10000000, 0), (0, 10000000, 1000)):
            with self.subTest(t=t, w=w):
                self.assertEqual(granted(*calls, flying(1, t, w)), [wanted])


class SeveralLegs(unittest.TestCase):
    def test_all_and_some(self):
        times = [(2000, 2100), (2200, 2350), (2400, 2500)]
        for t, w, wanted in ((2000, 500, 350), (2050, 400, 250), (2100, 100, 0), (2100, 101, 1), (2099, 102, 2),
                             (2250, 200, 150), (2350, 50, 0), (0, 10000000, 350), (2500, 1000, 0)):
            with self.subTest(t=t, w=w):
                self.assertEqual(flown(times, t, w), wanted)

    def test_legs_that_overlap_count_each(self):
        calls = lapped([(2000, 2100), (2050, 2150), (2060, 2070)])
        for t, w, wanted in ((2000, 150, 210), (2050, 50, 110), (2060, 10, 30), (2065, 10, 25), (2100, 100, 50),
                             (0, 2055, 60), (2150, 1, 0), (2060, 0, 0)):
            with self.subTest(t=t, w=w):
                self.assertEqual(granted(*calls, flying(1, t, w)), [wanted])

    def test_legs_at_one_time(self):
        self.assertEqual(granted(*lapped([(2000, 2100), (2000, 2100)]), flying(1, 2050, 20)), [40])


class Roster(unittest.TestCase):
    def test_empty(self):
        self.assertEqual(granted(leg(0, 1, 2000, 2100), member(1), flying(1, 0, 10000000)), [0])

    def test_the_member_alone_counts(self):
        calls = hops([(2000, 2100), (2200, 2350)]) + [member(1), member(2, 1), assign(1, 1), assign(2, 2)]
        told = ask(*calls, flying(1, 0, 9000), flying(2, 0, 9000), assign(1, 2), flying(1, 0, 9000), unassign(2, 2),
                   flying(2, 0, 9000), flying(1, 0, 9000))
        self.assertEqual(told[6:], [[0, 100], [0, 150], [0], [0, 250], [0], [0, 0], [0, 250]])

    def test_behind_a_delay(self):
        calls = flier([(2000, 2100)])
        told = ask(*calls, delay(1, 60), flying(1, 2000, 100), delay(1, -120), flying(1, 2000, 100))
        self.assertEqual(told[3:], [[0], [0, 40], [0], [0, 40]])


if __name__ == "__main__":
    unittest.main()
