"""The functions for duties, windows and the run, by themselves: legs that overlap, and duties of many days."""

import unittest

from crewlegs.duties import cut_duties, longest_run
from crewlegs.house import Leg, Rules, in_order
from crewlegs.windows import most_flown


def legs_at(*times):
    return in_order([Leg(k, (0, 1), pair, (0, 0, 0)) for k, pair in enumerate(times, start=1)])


def duties_at(plain, *times):
    return cut_duties(Rules(plain, [1440] * 8, []), legs_at(*times))


def shown(duties):
    return [(duty.begin, duty.end, [leg.place for leg in duty.legs]) for duty in duties]


PLAIN = [0, 300, 0, 0, 0, 30]


def flown_by_minutes(legs, w):
    """The greatest that is flown for w minutes, by looking at every moment."""
    latest = max(leg.arr for leg in legs)
    return max(sum(max(0, min(leg.arr, t + w) - max(leg.dep, t)) for leg in legs) for t in range(latest + 1))


class Duties(unittest.TestCase):
    def test_the_leg_next_before_cuts_also_where_another_one_lands_later(self):
        told = shown(duties_at(PLAIN, (2000, 3000), (2010, 2100), (2400, 2500)))
        self.assertEqual(told, [(2000, 2100, [1, 2]), (2400, 2500, [3])])
        told = shown(duties_at(PLAIN, (2000, 3000), (2010, 2100), (2399, 2500)))
        self.assertEqual(told, [(2000, 2500, [1, 2, 3])])

    def test_equal_dep_by_places(self):
        told = shown(duties_at(PLAIN, (2000, 3000), (2000, 2100), (2400, 2500)))
        self.assertEqual(told, [(2000, 2100, [1, 2]), (2400, 2500, [3])])
        told = shown(duties_at(PLAIN, (2000, 2100), (2000, 3000), (2400, 2500)))
        self.assertEqual(told, [(2000, 2500, [1, 2, 3])])

    def test_before_and_after(self):
        told = shown(duties_at([0, 300, 180, 170, 0, 30], (1440, 1500), (1800, 1900)))
        self.assertEqual(told, [(1260, 1670, [1]), (1620, 2070, [2])])

    def test_no_legs(self):
        self.assertEqual(duties_at(PLAIN), [])


class Run(unittest.TestCase):
    def test_no_duties(self):
        self.assertEqual(longest_run([]), 0)

    def test_a_duty_of_many_days(self):
        times = [(1440 * d, 1440 * d + 1200) for d in range(3, 9)]
        self.assertEqual(longest_run(duties_at(PLAIN, *times)), 6)
        self.assertEqual(longest_run(duties_at([0, 241, 0, 0, 0, 30], *times)), 6)

    def test_an_end_that_lies_before_a_legs_arr(self):
        # The duty ends with its last leg, so the day in which the first one lands isn't touched.
        self.assertEqual(longest_run(duties_at(PLAIN, (4000, 5000), (4010, 4100))), 1)
        self.assertEqual(longest_run(duties_at(PLAIN, (4000, 5000))), 2)

    def test_duties_that_share_a_day(self):
        self.assertEqual(longest_run(duties_at(PLAIN, (4300, 4400), (4800, 4900), (5700, 5800))), 3)


class Windows(unittest.TestCase):
    def test_no_legs(self):
        self.assertEqual(most_flown([], 60), 0)

    def test_legs_at_once_count_each(self):
        legs = legs_at((2000, 2100), (2000, 2100), (2050, 2150))
        for w, wanted in ((60, 170), (100, 250), (150, 300), (60000, 300)):
            with self.subTest(w=w):
                self.assertEqual(most_flown(legs, w), wanted)

    def test_as_by_looking_at_every_moment(self):
        for times in ([(1440, 1500), (1460, 1700), (1600, 1610), (1800, 1900)],
                      [(1500, 1700), (1500, 1520), (1690, 1800), (1900, 2100), (1950, 1960)],
                      [(1440, 1441), (2600, 2700)]):
            for w in (60, 61, 99, 150, 200, 333, 700, 1300, 1500, 2700, 2701, 5000):
                legs = legs_at(*times)
                with self.subTest(times=times, w=w):
                    self.assertEqual(most_flown(legs, w), flown_by_minutes(legs, w))


if __name__ == "__main__":
    unittest.main()
