"""Point 9: fill."""

import unittest

from tests.talk import (ask, assign, check, crew, delay, fill, fits, granted, hops, last, leg, member, roster, rules,
                        shown, unassign)

ONE = leg(0, 1, 2000, 2100, (2, 1, 1))


class Refusals(unittest.TestCase):
    def test_ranges(self):
        for place, wanted in ((-1, [-2]), (0, [-2]), (1, [0, 1]), (2, [-7]), (60, [-7]), (61, [-2])):
            with self.subTest(place=place):
                self.assertEqual(last(ONE, member(1), fill(place)), wanted)

    def test_the_last_of_sixty_legs(self):
        self.assertEqual(granted(*[ONE] * 60, member(1), fill(60)), [1])

    def test_no_leg_at_all(self):
        self.assertEqual(last(member(1), fill(1)), [-7])

    def test_a_refusal_changes_nothing(self):
        told = ask(ONE, member(1), fill(2), fill(0), fill(61), roster(1), shown(1))
        self.assertEqual(told[2:], [[-7], [-2], [-2], [0], [0, 0, 1, 2000, 2100, 2, 1, 1, 0, 0, 0]])


class Ranks(unittest.TestCase):
    def test_in_their_order(self):
        self.assertEqual(granted(ONE, *crew(2, 1, 0, 0), fill(1)), [3, 4, 2, 1])

    def test_a_rank_that_needs_none(self):
        for needs, wanted in (((0, 1, 1), [2, 3]), ((1, 0, 1), [1, 3]), ((1, 1, 0), [1, 2]), ((0, 0, 0), [])):
            with self.subTest(needs=needs):
                self.assertEqual(granted(leg(0, 1, 2000, 2100, needs), *crew(0, 1, 2), fill(1)), wanted)

    def test_a_rank_that_is_met_already(self):
        calls = [ONE, *crew(0, 0, 0, 1, 1, 2), assign(3, 1), assign(1, 1), assign(5, 1)]
        self.assertEqual(granted(*calls, fill(1)), [6])

    def test_a_rank_that_is_met_in_part(self):
        self.assertEqual(granted(ONE, *crew(0, 0, 0), assign(1, 1), fill(1)), [2])

    def test_too_few_fit(self):
        calls = [leg(0, 1, 2000, 2100, (4, 2, 1)), *crew(0, 0, 1, 2), member(5, 1, 0), member(6, 1, 1), fill(1)]
        self.assertEqual(granted(*calls), [1, 2, 3, 4])

    def test_nobody_of_a_rank_fits(self):
        self.assertEqual(granted(ONE, member(1, 1, 0), member(2, 0, 1), member(3, 1, 2), fill(1)), [2])

    def test_all_are_needed(self):
        calls = [leg(0, 1, 2000, 2100), *crew(*[0] * 5, *[1] * 5, *[2] * 5), fill(1)]
        self.assertEqual(granted(*calls), [1, 2, 3, 4, 6, 7, 8, 9, 11, 12, 13, 14])

    def test_nobody(self):
        self.assertEqual(granted(ONE, fill(1)), [])


class Order(unittest.TestCase):
    def test_by_minutes_and_then_by_ids(self):
        calls = [leg(0, 1, 2000, 2100), leg(1, 0, 2200, 2300), leg(0, 1, 2000, 2150), leg(1, 0, 2200, 2230),
                 leg(0, 1, 5000, 5100, (3, 0, 0)), *[member(number) for number in (50, 10, 40, 20, 30)]]
        # 20 and 40 have 200 minutes, 10 and 50 have 180, 30 has 130.
        pairs = [(20, 1), (20, 2), (40, 1), (40, 2), (10, 3), (10, 4), (50, 3), (50, 4), (30, 1), (30, 4)]
        calls += [assign(number, place) for number, place in pairs]
        self.assertEqual(granted(*calls, fill(5)), [30, 10, 50])
        self.assertEqual(granted(*calls, unassign(50, 4), unassign(50, 3), fill(5)), [50, 30, 10])

    def test_equal_minutes_by_ids_not_by_the_members_order(self):
        self.assertEqual(granted(ONE, member(9), member(100), member(30), member(4), fill(1)), [4, 9])

    def test_a_leg_that_was_filled_counts_for_the_next(self):
        calls = [leg(0, 1, 2000, 2100, (1, 0, 0)), leg(0, 1, 5000, 5100, (2, 0, 0)), leg(1, 0, 2200, 2300, (1, 0, 0))]
        told = ask(*calls, *crew(0, 0, 0), fill(1), fill(3), fill(2))
        self.assertEqual(told[6:], [[0, 1], [0, 1], [0, 2, 3]])

    def test_first_of_those_who_fit_not_of_all(self):
        # 1 has the least minutes, but is elsewhere then.
        calls = [leg(0, 1, 2000, 2050), leg(0, 1, 2000, 2100), leg(1, 0, 2200, 2300), leg(0, 1, 5000, 5100, (2, 0, 0))]
        calls += crew(0, 0, 0) + [assign(1, 1), assign(2, 2), assign(2, 3), assign(3, 1), assign(3, 3)]
        self.assertEqual(granted(*calls, fill(4)), [3, 2])


class Done(unittest.TestCase):
    def test_they_have_it_and_nobody_else(self):
        calls = [leg(0, 1, 2000, 2100, (1, 1, 0)), leg(0, 1, 2000, 2100), *crew(0, 0, 1, 1, 2)]
        told = ask(*calls, fill(1), *[roster(number) for number in range(1, 6)])
        self.assertEqual(told[7:], [[0, 1, 3], [0, 1], [0], [0, 1], [0], [0]])

    def test_nothing_else_is_lost(self):
        calls = hops([(2000, 2100), (2200, 2300), (2400, 2500)]) + [member(1), assign(1, 1), assign(1, 2)]
        self.assertEqual(granted(*calls, fill(3), roster(1)), [1, 2, 3])

    def test_twice(self):
        calls = [leg(0, 1, 2000, 2100, (2, 1, 0)), *crew(0, 1, 1)]
        self.assertEqual(ask(*calls, fill(1), fill(1), member(9), fill(1))[4:], [[0, 1, 2], [0], [0], [0, 9]])

    def test_behind_an_unassign(self):
        calls = [leg(0, 1, 2000, 2100, (2, 0, 0)), *crew(0, 0, 0), fill(1), unassign(1, 1), assign(3, 1), fill(1)]
        self.assertEqual(ask(*calls)[4:], [[0, 1, 2], [0], [0], [0]])
        calls = [leg(0, 1, 2000, 2100, (2, 0, 0)), *crew(0, 0, 0), fill(1), unassign(1, 1), fill(1)]
        self.assertEqual(granted(*calls), [1])

    def test_rosters_keep_the_rules(self):
        calls = hops([(2000, 2100), (2150, 2250)]) + crew(0, 0) + [member(3, 1), assign(1, 1)]
        self.assertEqual(granted(*calls, fill(2)), [3, 1])
        self.assertEqual(granted(*calls, rules(turn=51), fill(2)), [3])
        self.assertEqual(granted(*calls, rules(turn=50), fill(2)), [3, 1])
        self.assertEqual(granted(*calls, rules(windows=(300, 199)), fill(2)), [3])
        self.assertEqual(granted(*calls, rules(windows=(300, 200)), fill(2)), [3, 1])
        self.assertEqual(granted(*calls, rules(longest=(249,) * 8), fill(2)), [3])
        self.assertEqual(granted(*calls, rules(longest=(99,) * 8), fill(2)), [])

    def test_a_roster_that_is_broken_gets_nothing(self):
        calls = hops([(2000, 2100), (2200, 2300), (9000, 9100)]) + crew(0, 0) + [assign(1, 1), assign(1, 2)]
        self.assertEqual(ask(*calls, delay(1, 101), fill(3), roster(1))[-3:], [[0, 1], [0, 2], [0, 1, 2]])

    def test_as_fits_would_answer(self):
        calls = [leg(0, 1, 2000, 2100, (4, 1, 0)), leg(0, 1, 2000, 2050, (4, 0, 0)), *crew(0, 0, 1, 0), assign(2, 2)]
        told = ask(*calls, fits(1, 0), fill(1), fits(1, 0), fits(1, 1), check(1), check(3))
        self.assertEqual(told[7:], [[0, 1, 4], [0, 1, 4, 3], [0], [0], [0, 0, 0], [0, 0, 0]])


if __name__ == "__main__":
    unittest.main()
