"""Point 8: fits."""

import unittest

from tests.talk import ask, assign, delay, fits, has, hops, last, leg, member, rules, unassign


class Refusals(unittest.TestCase):
    def test_ranges(self):
        for place, rank, wanted in ((0, 0, [-2]), (61, 0, [-2]), (1, -1, [-2]), (1, 3, [-2]), (2, 3, [-2]), (2, 0, [-7]),
                                    (60, 2, [-7]), (1, 0, [0]), (1, 2, [0])):
            with self.subTest(place=place, rank=rank):
                self.assertEqual(last(leg(0, 1, 2000, 2100), fits(place, rank)), wanted)


class Answer(unittest.TestCase):
    def test_by_minutes_and_then_by_ids(self):
        calls = [leg(0, 1, 2000, 2100), leg(1, 0, 2200, 2300), leg(0, 1, 2000, 2150), leg(1, 0, 2200, 2250),
                 leg(0, 1, 5000, 5100)]
        calls += [member(k) for k in (50, 10, 40, 20, 30, 60)]
        # 60 has nothing; 20 and 40 have 200; 10 and 50 have 150 + 50; 30 has 100 + 50.
        calls += [assign(20, 1), assign(20, 2), assign(40, 1), assign(40, 2), assign(10, 3), assign(10, 4)]
        calls += [assign(50, 3), assign(50, 4), assign(30, 1), assign(30, 4)]
        self.assertEqual(ask(*calls, fits(5, 0))[-1], [0, 60, 30, 10, 20, 40, 50])

    def test_minutes_are_not_the_number_of_legs_nor_the_length(self):
        calls = [leg(0, 1, 2000, 2010), leg(1, 0, 2200, 2210), leg(2, 0, 2000, 2100), leg(0, 1, 5000, 5100)]
        calls += [member(1, 2), member(2, 0), assign(1, 3), assign(2, 1), assign(2, 2)]
        self.assertEqual(last(*calls, fits(4, 0)), [0, 2, 1])

    def test_equal_minutes_by_ids_not_by_the_members_order(self):
        calls = [leg(0, 1, 2000, 2100)] + [member(k) for k in (9, 100, 30)]
        self.assertEqual(last(*calls, fits(1, 0)), [0, 9, 30, 100])

    def test_members_of_another_rank(self):
        calls = [leg(0, 1, 2000, 2100), member(1, 0, 0), member(2, 0, 1), member(3, 0, 2), member(4, 0, 1)]
        self.assertEqual(ask(*calls, fits(1, 0), fits(1, 1), fits(1, 2))[-3:], [[0, 1], [0, 2, 4], [0, 3]])

    def test_members_who_have_the_leg(self):
        calls = [leg(0, 1, 2000, 2100), member(1), member(2), assign(1, 1)]
        self.assertEqual(ask(*calls, fits(1, 0), unassign(1, 1), fits(1, 0))[-3:], [[0, 2], [0], [0, 1, 2]])

    def test_whether_it_is_needed_is_not_asked(self):
        calls = [leg(0, 1, 2000, 2100, (0, 1, 0)), member(1), member(2, 0, 1), member(3, 0, 1), assign(2, 1)]
        self.assertEqual(ask(*calls, fits(1, 0), fits(1, 1))[-2:], [[0, 1], [0, 3]])

    def test_rosters_that_would_not_keep_the_rules(self):
        calls = [leg(0, 1, 2000, 2100), leg(1, 0, 2200, 2300), member(1, 0), member(2, 1), member(3, 0), assign(3, 1)]
        self.assertEqual(ask(*calls, fits(1, 0), fits(2, 0))[-2:], [[0, 1], [0, 2, 3]])
        calls += [rules(longest=(299,) * 8)]
        self.assertEqual(last(*calls, fits(2, 0)), [0, 2])
        calls += [rules(turn=101)]
        self.assertEqual(last(*calls, fits(2, 0)), [0, 2])
        calls += [rules(longest=(99,) * 8)]
        self.assertEqual(last(*calls, fits(2, 0)), [0])

    def test_a_roster_that_is_broken_already(self):
        calls = hops([(2000, 2100), (3000, 3100), (9000, 9100)]) + [member(1), member(2, 0), assign(1, 1), assign(1, 2)]
        told = ask(*calls, fits(3, 0), delay(2, -950), fits(3, 0))
        self.assertEqual(told[-3:], [[0, 2, 1], [0, 1], [0, 2]])

    def test_a_leg_that_mends_a_roster(self):
        calls = hops([(2000, 2100), (3000, 3100)]) + [member(1), assign(1, 1), assign(1, 2), unassign(1, 1)]
        self.assertEqual(last(*calls, fits(1, 0)), [0, 1])

    def test_nobody(self):
        self.assertEqual(last(leg(0, 1, 2000, 2100), fits(1, 0)), [0])

    def test_nobody_gets_the_leg(self):
        calls = [leg(0, 1, 2000, 2100), member(1), fits(1, 0)]
        self.assertEqual(ask(*calls, fits(1, 0), has(1, 1))[-2:], [[0, 1], [-8]])


if __name__ == "__main__":
    unittest.main()
