"""Point 12: roster."""

import unittest

from tests.talk import (ask, assign, at_member_edges, delay, fill, flier, granted, hops, lapped, leg, member, roster,
                        rules, swap, unassign)


class Refusals(unittest.TestCase):
    def test_ranges(self):
        self.assertEqual(at_member_edges(roster), [-2, -2, 0, -3, -3, 0, -2])

    def test_a_refusal_changes_nothing(self):
        self.assertEqual(ask(roster(1), *flier([(2000, 2100)]), roster(2), roster(0), roster(1))[4:],
                         [[-3], [-2], [0, 1]])


class Order(unittest.TestCase):
    def test_by_dep_not_by_places_nor_as_given(self):
        calls = [leg(0, 1, 6000, 6100), leg(1, 0, 4000, 4100), leg(0, 1, 2000, 2100), leg(1, 0, 8000, 8100), member(1)]
        calls += [assign(1, 3), assign(1, 2), assign(1, 1), assign(1, 4)]
        self.assertEqual(granted(*calls, roster(1)), [3, 2, 1, 4])
        # One that is taken away and given back goes to its place again.
        for place in (1, 2, 3):
            with self.subTest(place=place):
                self.assertEqual(granted(*calls, unassign(1, place), assign(1, place), roster(1)), [3, 2, 1, 4])

    def test_equal_dep_by_places(self):
        self.assertEqual(granted(*lapped([(2000, 2100), (2000, 2050), (2000, 2150)]), roster(1)), [1, 2, 3])
        # Behind one delay the later place comes to the same dep, behind another the earlier one.
        calls = flier([(2000, 2100), (2200, 2300), (2400, 2500)])
        self.assertEqual(granted(*calls, delay(3, -400), roster(1)), [1, 3, 2])
        self.assertEqual(granted(*calls, delay(3, -401), roster(1)), [3, 1, 2])
        self.assertEqual(granted(*calls, delay(1, 400), roster(1)), [2, 1, 3])
        self.assertEqual(granted(*calls, delay(1, 401), roster(1)), [2, 3, 1])

    def test_equal_dep_by_places_though_given_in_another_order(self):
        calls = [leg(1, 0, 4000, 4100), leg(0, 1, 2000, 2100), member(1), assign(1, 2), assign(1, 1)]
        told = ask(*calls, roster(1), delay(1, -1000), delay(1, -1000), roster(1), delay(1, 1), roster(1))
        self.assertEqual([told[5], told[8], told[10]], [[0, 2, 1], [0, 1, 2], [0, 2, 1]])

    def test_arr_is_not_asked(self):
        self.assertEqual(granted(*lapped([(2000, 3000), (2001, 2002)]), roster(1)), [1, 2])
        self.assertEqual(granted(*lapped([(2001, 2002), (2000, 3000)]), roster(1)), [2, 1])

    def test_a_delay_that_reorders_it_and_back(self):
        calls = flier([(2000, 2100), (2200, 2300), (2400, 2500)])
        told = ask(*calls, delay(1, 300), roster(1), delay(1, 200), roster(1), delay(1, -500), roster(1))
        self.assertEqual(told[8::2], [[0, 2, 1, 3], [0, 2, 3, 1], [0, 1, 2, 3]])


class Legs(unittest.TestCase):
    def test_empty(self):
        self.assertEqual(granted(leg(0, 1, 2000, 2100), member(1), roster(1)), [])
        self.assertEqual(granted(leg(0, 1, 2000, 2100), member(1), assign(1, 1), unassign(1, 1), roster(1)), [])

    def test_behind_assign_and_unassign(self):
        calls = flier([(2000, 2100), (2200, 2300), (2400, 2500)])
        told = ask(*calls, roster(1), unassign(1, 2), roster(1), assign(1, 2), roster(1))
        self.assertEqual(told[7:], [[0, 1, 2, 3], [0], [0, 1, 3], [0], [0, 1, 2, 3]])

    def test_a_refused_assign(self):
        calls = [*flier([(2000, 2100), (2200, 2300)]), assign(1, 1), unassign(1, 2), rules(turn=300), assign(1, 2)]
        self.assertEqual(ask(*calls, roster(1))[5:], [[-8], [0], [0], [-12], [0, 1]])

    def test_behind_swap_and_fill(self):
        calls = hops([(2000, 2100), (2200, 2300), (2000, 2100), (2200, 2300)]) + [member(1), member(2), fill(1)]
        told = ask(*calls, fill(2), unassign(2, 1), unassign(2, 2), assign(2, 3), assign(2, 4), swap(1, 2, 2150),
                   roster(1), roster(2))
        self.assertEqual(told[6:], [[0, 1, 2], [0, 1, 2], [0], [0], [0], [0], [0], [0, 1, 4], [0, 3, 2]])

    def test_of_each_member_its_own(self):
        calls = hops([(2000, 2100), (2200, 2300)]) + [member(1), member(2, 1), member(3), assign(1, 1), assign(2, 2)]
        self.assertEqual(ask(*calls, roster(1), roster(2), roster(3))[7:], [[0, 1], [0, 2], [0]])

    def test_sixty_legs(self):
        starts = [4320 * (1 + k // 2) + 200 * (k % 2) for k in range(60)]
        self.assertEqual(granted(*flier([(dep, dep + 100) for dep in starts]), roster(1)), list(range(1, 61)))


if __name__ == "__main__":
    unittest.main()
