"""Point 6: swap."""

import unittest

from tests.talk import ask, assign, check, delay, has, last, leg, member, rules, swap, unassign

# Two members who fly to and fro on two days each, at the same base.
LEGS = [leg(0, 1, 2000, 2100), leg(1, 0, 2200, 2300), leg(0, 1, 5000, 5100), leg(1, 0, 5200, 5300),
        leg(0, 2, 2000, 2150), leg(2, 0, 2200, 2350), leg(0, 2, 5000, 5150), leg(2, 0, 5200, 5350)]
TWO = LEGS + [member(1), member(2)] + [assign(1, k) for k in (1, 2, 3, 4)] + [assign(2, k) for k in (5, 6, 7, 8)]


def who(*calls):
    """Behind these calls: the places that member 1 has, and those that member 2 has."""
    asked = [has(number, place) for number in (1, 2) for place in range(1, 9)]
    told = ask(*calls, *asked)[-16:]
    firsts = [place for place in range(1, 9) if told[place - 1] == [0]]
    seconds = [place for place in range(1, 9) if told[place + 7] == [0]]
    return firsts, seconds


class Refusals(unittest.TestCase):
    def test_ranges(self):
        for call in (swap(0, 2, 0), swap(1000000001, 2, 0), swap(1, 0, 0), swap(1, 1000000001, 0), swap(1, 2, -1),
                     swap(1, 2, 10000001), swap(7, 8, -1), swap(1, 1, -1)):
            with self.subTest(call=call):
                self.assertEqual(last(*TWO, call), [-2])
        self.assertEqual(last(*TWO, swap(1, 2, 0)), [0])
        self.assertEqual(last(*TWO, swap(1, 2, 10000000)), [0])

    def test_no_member(self):
        for call in (swap(3, 2, 0), swap(1, 3, 0), swap(3, 4, 0), swap(3, 3, 0), swap(1000000000, 1, 0)):
            with self.subTest(call=call):
                self.assertEqual(last(*TWO, call), [-3])

    def test_both_are_one_member(self):
        self.assertEqual(last(*TWO, swap(1, 1, 0)), [-10])
        self.assertEqual(last(*TWO, swap(2, 2, 10000000)), [-10])
        self.assertEqual(last(member(3), swap(3, 3, 0)), [-10])

    def test_ranks_unlike(self):
        for rank in range(3):
            for other in range(3):
                with self.subTest(rank=rank, other=other):
                    self.assertEqual(last(member(3, 0, rank), member(4, 0, other), swap(3, 4, 0)),
                                     [0] if rank == other else [-10])

    def test_ranks_unlike_comes_before_a_leg_that_both_have(self):
        calls = [leg(0, 1, 2000, 2100), member(1, 0, 0), member(2, 0, 1), assign(1, 1), assign(2, 1)]
        self.assertEqual(last(*calls, swap(1, 2, 0)), [-10])

    def test_a_leg_that_both_have(self):
        calls = [leg(0, 1, 2000, 2100), leg(1, 0, 2200, 2300), member(1), member(2)]
        calls += [assign(1, 1), assign(2, 1), assign(2, 2)]
        for t in (0, 2000, 2001, 2200, 10000000):
            with self.subTest(t=t):
                self.assertEqual(last(*calls, swap(1, 2, t)), [-8])
                self.assertEqual(last(*calls, swap(2, 1, t)), [-8])
        self.assertEqual(last(*calls, unassign(1, 1), swap(1, 2, 0)), [0])

    def test_a_leg_that_both_have_comes_before_the_rules(self):
        calls = [leg(0, 1, 2000, 2100), leg(1, 0, 2200, 2300), member(1), member(2)]
        calls += [assign(1, 1), assign(2, 1), assign(2, 2), rules(longest=(0,) * 8)]
        self.assertEqual(last(*calls, swap(1, 2, 2200)), [-8])

    def test_refused_for_the_first(self):
        # From 2200 on, each would come back from where only the other one is.
        self.assertEqual(last(*TWO, swap(1, 2, 2200)), [-11])
        self.assertEqual(who(*TWO, swap(1, 2, 2200)), ([1, 2, 3, 4], [5, 6, 7, 8]))

    def test_refused_for_the_second_alone(self):
        # Member 2 is at airport 1, so it can't take a leg from airport 0.
        calls = [leg(0, 1, 2000, 2100), leg(1, 0, 2200, 2300), leg(0, 1, 5000, 5100), member(1), member(2, 1)]
        calls += [assign(1, 1), assign(1, 2), assign(1, 3)]
        self.assertEqual(last(*calls, swap(1, 2, 5000)), [-11])
        self.assertEqual(who(*calls, swap(1, 2, 5000)), ([1, 2, 3], []))
        self.assertEqual(last(*calls, swap(1, 2, 10000000)), [0])

    def test_the_kind_of_the_first_goes_before_that_of_the_second(self):
        # The legs of member 1 are too long for the rules, member 2 has a leg from elsewhere.
        calls = [leg(0, 1, 2000, 2500), leg(0, 1, 2000, 2100), leg(1, 2, 2200, 2300), member(1), member(2)]
        calls += [assign(1, 1), assign(2, 2), assign(2, 3), unassign(2, 2), rules(longest=(400,) * 8)]
        self.assertEqual(last(*calls, swap(1, 2, 0)), [-11])
        self.assertEqual(last(*calls, swap(2, 1, 0)), [-13])
        self.assertEqual(last(*calls, swap(1, 2, 10000000)), [-13])
        self.assertEqual(last(*calls, swap(2, 1, 10000000)), [-11])
        self.assertEqual(who(*calls, swap(2, 1, 0)), ([1], [3]))

    def test_each_kind(self):
        for told, wanted in ((rules(turn=101), [-12]), (rules(longest=(349,) * 8), [-13]),
                             (rules(rest=2699), [-14]), (rules(windows=(400, 299)), [-15]), (rules(days=1), [0]),
                             (rules(windows=(60000, 499)), [-15]), (rules(windows=(60000, 500)), [0])):
            with self.subTest(told=told):
                self.assertEqual(last(*TWO, told, swap(1, 2, 5000)), wanted)

    def test_the_run(self):
        calls = [leg(0, 1, 1440 * d, 1440 * d + 100) for d in (1, 2)] + [member(1), member(2), assign(1, 1)]
        calls += [assign(2, 2), rules(days=1)]
        self.assertEqual(last(*calls, swap(1, 2, 0)), [0])
        calls = [leg(0, 1, 1440, 1540), leg(1, 0, 2880, 2980), member(1), member(2), assign(1, 1), assign(1, 2)]
        self.assertEqual(last(*calls, rules(days=1), swap(2, 1, 0)), [-16])


class Done(unittest.TestCase):
    def test_t_parts_the_rosters(self):
        for t, wanted in ((0, ([5, 6, 7, 8], [1, 2, 3, 4])), (2000, ([5, 6, 7, 8], [1, 2, 3, 4])),
                          (2201, ([1, 2, 7, 8], [3, 4, 5, 6])), (5000, ([1, 2, 7, 8], [3, 4, 5, 6])),
                          (5201, ([1, 2, 3, 4], [5, 6, 7, 8])), (10000000, ([1, 2, 3, 4], [5, 6, 7, 8]))):
            with self.subTest(t=t):
                self.assertEqual(ask(*TWO, swap(1, 2, t), check(1), check(2))[-3:], [[0], [0, 0, 0], [0, 0, 0]])
                self.assertEqual(who(*TWO, swap(1, 2, t)), wanted)
                self.assertEqual(who(*TWO, swap(2, 1, t)), wanted)

    def test_dep_at_t_goes_and_dep_before_t_stays(self):
        calls = [leg(0, 1, 2000, 2100), leg(1, 0, 3000, 3100), member(1), member(2), assign(1, 1)]
        self.assertEqual(who(*calls, swap(1, 2, 2000)), ([], [1]))
        self.assertEqual(who(*calls, swap(1, 2, 2001)), ([1], []))

    def test_dep_counts_as_it_is_now(self):
        calls = [leg(0, 1, 2000, 2100), member(1), member(2), assign(1, 1), delay(1, 500)]
        self.assertEqual(who(*calls, swap(1, 2, 2500)), ([], [1]))
        self.assertEqual(who(*calls, swap(1, 2, 2501)), ([1], []))

    def test_back_again(self):
        self.assertEqual(who(*TWO, swap(1, 2, 5000), swap(1, 2, 5000)), ([1, 2, 3, 4], [5, 6, 7, 8]))

    def test_two_empty_rosters(self):
        self.assertEqual(last(member(1, 3), member(2, 4), swap(1, 2, 0)), [0])

    def test_a_swap_that_mends_a_roster(self):
        calls = [leg(1, 2, 2000, 2100), leg(0, 1, 1500, 1600), member(1, 0), member(2, 1), assign(1, 2), assign(1, 1)]
        calls += [unassign(1, 2), check(1)]
        self.assertEqual(ask(*calls, swap(1, 2, 0), check(1), check(2))[-4:], [[0, 1, 1], [0], [0, 0, 0], [0, 0, 0]])

    def test_needs_are_not_asked(self):
        calls = [leg(0, 1, 2000, 2100, (1, 0, 0)), member(1), member(2), assign(1, 1)]
        self.assertEqual(ask(*calls, swap(1, 2, 0), assign(1, 1), has(2, 1))[-3:], [[0], [-9], [0]])

    def test_others_keep_their_legs(self):
        calls = TWO + [member(3), assign(3, 1), swap(1, 2, 0)]
        self.assertEqual(last(*calls, has(3, 1)), [0])


if __name__ == "__main__":
    unittest.main()
