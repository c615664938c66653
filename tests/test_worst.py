"""Point 11: worst."""

import unittest

from tests.talk import ask, assign, delay, flier, granted, hops, lapped, last, leg, member, roster, unassign, worst


def flown(times, w):
    return granted(*flier(times), worst(1, w))[0]


def by_every_moment(spans, w):
    latest = max(arr for dep, arr in spans)
    return max(sum(max(0, min(arr, t + w) - max(dep, t)) for dep, arr in spans) for t in range(latest + 1))


class Refusals(unittest.TestCase):
    def test_ranges(self):
        calls = flier([(2000, 2100)], number=1000000000) + [member(1)]
        for number, w, wanted in (
                (0, 0, [-2]), (1, 0, [0, 0]), (1, -1, [-2]), (1, 10000000, [0, 0]), (1, 10000001, [-2]),
                (1000000000, 10000000, [0, 100]), (1000000001, 0, [-2]), (2, 0, [-3]), (2, 10000001, [-2])):
            with self.subTest(number=number, w=w):
                self.assertEqual(last(*calls, worst(number, w)), wanted)

    def test_a_refusal_changes_nothing(self):
        told = ask(*flier([(2000, 2100)]), worst(2, 0), worst(1, -1), worst(1, 60), roster(1))
        self.assertEqual(told[3:], [[-3], [-2], [0, 60], [0, 1]])


class OneLeg(unittest.TestCase):
    def test_no_minutes(self):
        self.assertEqual(flown([(2000, 2100)], 0), 0)

    def test_shorter_as_long_and_longer(self):
        for w, wanted in ((1, 1), (60, 60), (99, 99), (100, 100), (101, 100), (2100, 100), (10000000, 100)):
            with self.subTest(w=w):
                self.assertEqual(flown([(2000, 2100)], w), wanted)

    def test_the_last_moment(self):
        calls = [leg(0, 1, 9999000, 10000000), member(1), assign(1, 1)]
        self.assertEqual(ask(*calls, worst(1, 10000000), worst(1, 999), worst(1, 1001))[3:],
                         [[0, 1000], [0, 999], [0, 1000]])


class SeveralLegs(unittest.TestCase):
    def test_between_two_legs_of_unlike_length(self):
        # The long leg lies behind and then ahead, so the best window ends with an arr or begins with a dep.
        for times in ([(2000, 2020), (2050, 2150)], [(2000, 2100), (2130, 2150)]):
            for w, wanted in ((100, 100), (129, 100), (130, 100), (131, 101), (140, 110), (149, 119), (150, 120),
                              (151, 120)):
                with self.subTest(times=times, w=w):
                    self.assertEqual(flown(times, w), wanted)

    def test_neither_the_first_nor_the_last_are_best(self):
        times = [(2000, 2010), (2100, 2150), (2160, 2200), (2300, 2310)]
        for w, wanted in ((50, 50), (60, 50), (70, 60), (100, 90), (190, 90), (199, 99), (200, 100), (201, 100),
                          (210, 100), (310, 110), (10000000, 110)):
            with self.subTest(w=w):
                self.assertEqual(flown(times, w), wanted)

    def test_longer_than_the_whole_roster(self):
        times = [(1440, 1500), (1600, 1800), (1900, 1950)]
        for w, wanted in ((509, 309), (510, 310), (511, 310), (1950, 310), (1951, 310), (60000, 310)):
            with self.subTest(w=w):
                self.assertEqual(flown(times, w), wanted)

    def test_a_window_that_would_begin_below_0(self):
        times = [(1440, 1500), (2000, 2100), (3000, 3010)]
        for w in (1499, 1500, 1501, 1569, 1570, 1571, 2100, 2101, 3010, 3011):
            with self.subTest(w=w):
                self.assertEqual(flown(times, w), by_every_moment(times, w))

    def test_legs_that_overlap(self):
        calls = lapped([(2000, 2100), (2050, 2150), (2060, 2070)])
        for w, wanted in ((0, 0), (1, 3), (10, 30), (20, 50), (50, 110), (100, 160), (150, 210), (10000000, 210)):
            with self.subTest(w=w):
                self.assertEqual(granted(*calls, worst(1, w)), [wanted])

    def test_legs_that_overlap_as_by_every_moment(self):
        for spans in ([(2000, 2500), (2100, 2120), (2130, 2400), (2390, 2600), (2700, 2800)],
                      [(2300, 2310), (2000, 2300), (2290, 2500), (2290, 2330)]):
            calls = lapped(spans)
            for w in (1, 7, 20, 50, 99, 210, 333, 600, 799, 800, 2000, 2500):
                with self.subTest(spans=spans, w=w):
                    self.assertEqual(granted(*calls, worst(1, w)), [by_every_moment(spans, w)])


class Roster(unittest.TestCase):
    def test_empty(self):
        calls = [leg(0, 1, 2000, 2100), member(1)]
        self.assertEqual(ask(*calls, worst(1, 0), worst(1, 10000000))[2:], [[0, 0], [0, 0]])

    def test_the_member_alone_counts(self):
        calls = hops([(2000, 2100), (2200, 2350)]) + [member(1), member(2, 1), assign(1, 1), assign(2, 2)]
        told = ask(*calls, worst(1, 9000), worst(2, 9000), assign(1, 2), worst(1, 9000), unassign(1, 1), worst(1, 9000))
        self.assertEqual(told[6:], [[0, 100], [0, 150], [0], [0, 250], [0], [0, 150]])

    def test_behind_a_delay(self):
        calls = flier([(2000, 2100), (2200, 2300)])
        told = ask(*calls, worst(1, 210), delay(1, 50), worst(1, 210), delay(1, 100), worst(1, 100), worst(1, 150))
        self.assertEqual(told[5:], [[0, 110], [0], [0, 160], [0, 1], [0, 150], [0, 200]])


if __name__ == "__main__":
    unittest.main()
