"""Points 3 and 4: assign and unassign."""

import unittest

from tests.talk import ask, assign, check, delay, fault, has, hops, last, leg, member, rules, unassign

ONE = [leg(0, 1, 2000, 2100), member(1)]


class Named(unittest.TestCase):
    """What assign and unassign refuse alike."""

    def test_ranges(self):
        for call in (assign, unassign):
            for number, place in ((0, 1), (1000000001, 1), (1, 0), (1, 61), (-1, -1)):
                with self.subTest(call=call.__name__, number=number, place=place):
                    self.assertEqual(last(*ONE, call(number, place)), [-2])
            self.assertEqual(last(*ONE, call(1000000000, 1)), [-3])
            self.assertEqual(last(*ONE, call(1, 60)), [-7])

    def test_the_places_ends_are_places(self):
        sixty = [leg(0, 1, 2000, 2100)] * 60 + [member(1)]
        self.assertEqual(ask(*sixty, assign(1, 60), unassign(1, 60), assign(1, 1), unassign(1, 1))[-4:], [[0]] * 4)

    def test_no_member_comes_before_no_leg(self):
        for call in (assign, unassign):
            with self.subTest(call=call.__name__):
                self.assertEqual(last(*ONE, call(2, 1)), [-3])
                self.assertEqual(last(*ONE, call(2, 2)), [-3])
                self.assertEqual(last(*ONE, call(1, 2)), [-7])

    def test_range_comes_before_no_member(self):
        for call in (assign, unassign):
            with self.subTest(call=call.__name__):
                self.assertEqual(last(*ONE, call(2, 61)), [-2])
                self.assertEqual(last(*ONE, call(2, 0)), [-2])


class Assign(unittest.TestCase):
    def test_a_leg_is_given_once(self):
        self.assertEqual(ask(*ONE, assign(1, 1), assign(1, 1))[-2:], [[0], [-8]])

    def test_having_the_leg_comes_before_the_need(self):
        calls = [leg(0, 1, 2000, 2100, (1, 0, 0)), member(1), assign(1, 1), assign(1, 1)]
        self.assertEqual(last(*calls), [-8])

    def test_no_more_than_needed_of_the_rank(self):
        for rank in range(3):
            needs = [0, 0, 0]
            needs[rank] = 2
            people = [member(k, 0, rank) for k in (1, 2, 3)]
            calls = [leg(0, 1, 2000, 2100, needs), *people, member(9, 0, (rank + 1) % 3)]
            told = ask(*calls, assign(1, 1), assign(9, 1), assign(2, 1), assign(3, 1), unassign(1, 1), assign(3, 1))
            with self.subTest(rank=rank):
                self.assertEqual(told[-6:], [[0], [-9], [0], [-9], [0], [0]])

    def test_other_ranks_fill_no_need(self):
        calls = [leg(0, 1, 2000, 2100, (1, 1, 1)), member(1, 0, 0), member(2, 0, 1), member(3, 0, 2)]
        self.assertEqual(ask(*calls, assign(1, 1), assign(2, 1), assign(3, 1))[-3:], [[0]] * 3)

    def test_four_of_a_rank(self):
        calls = [leg(0, 1, 2000, 2100, (4, 0, 0))] + [member(k) for k in range(1, 6)]
        self.assertEqual(ask(*calls, *[assign(k, 1) for k in range(1, 6)])[-5:], [[0]] * 4 + [[-9]])

    def test_the_need_comes_before_the_rules(self):
        calls = [leg(0, 1, 2000, 2100, (0, 1, 1)), member(1, 5)]
        self.assertEqual(last(*calls, assign(1, 1)), [-9])

    def test_each_kind_of_fault(self):
        far = [leg(0, 1, 2000, 2100), leg(2, 0, 2200, 2300)]
        self.assertEqual(last(*far, member(1), assign(1, 1), assign(1, 2)), [-11])
        for times, told, wanted in (
                ([(2000, 2100), (2099, 2200)], rules(), [-12]),
                ([(2000, 2100), (2200, 2300)], rules(longest=(299,) * 8), [-13]),
                ([(2000, 2100), (2400, 2500)], rules(rest=301), [-14]),
                ([(2000, 2100), (2200, 2300)], rules(windows=(1000, 199)), [-15]),
                ([(2000, 2100), (3000, 3100)], rules(days=1), [-16])):
            calls = [*hops(times), member(1), told, assign(1, 1), assign(1, 2)]
            with self.subTest(times=times):
                self.assertEqual(ask(*calls)[-2:], [[0], wanted])

    def test_the_first_kind_is_told(self):
        calls = [leg(0, 1, 2000, 2100), leg(2, 0, 2099, 2300), member(1), assign(1, 1)]
        self.assertEqual(last(*calls, rules(0, 300, 0, 0, 0, 1, (0,) * 8, (60, 0)), assign(1, 2)), [-11])

    def test_a_fault_that_was_there_refuses_too(self):
        calls = [*hops([(2000, 2100), (3000, 3100), (9000, 9100)]), member(1), assign(1, 1), assign(1, 2), delay(2, -950)]
        self.assertEqual(ask(*calls, assign(1, 3))[-2:], [[0, 1], [-12]])

    def test_a_leg_between_two_others(self):
        calls = [leg(0, 1, 2000, 2100), leg(0, 2, 2400, 2500), leg(1, 0, 2150, 2250), member(1), assign(1, 1)]
        self.assertEqual(ask(*calls, assign(1, 2), assign(1, 3), assign(1, 2), check(1))[-4:], [[-11], [0], [0], [0, 0, 0]])

    def test_a_refusal_gives_no_leg(self):
        calls = [*hops([(2000, 2100), (2099, 2200)]), member(1), assign(1, 1), assign(1, 2)]
        self.assertEqual(ask(*calls, check(1), has(1, 2), has(1, 1))[-4:], [[-12], [0, 0, 0], [-8], [0]])

    def test_one_members_leg_is_not_anothers(self):
        calls = [*ONE, member(2), assign(1, 1)]
        self.assertEqual(ask(*calls, has(2, 1), assign(2, 1), has(1, 1), has(2, 1))[-4:], [[-8], [0], [0], [0]])


class Unassign(unittest.TestCase):
    def test_a_leg_that_the_member_has_not(self):
        self.assertEqual(last(*ONE, unassign(1, 1)), [-8])
        self.assertEqual(ask(*ONE, member(2), assign(1, 1), unassign(2, 1), has(1, 1))[-2:], [[-8], [0]])

    def test_the_leg_is_gone_once(self):
        self.assertEqual(ask(*ONE, assign(1, 1), unassign(1, 1), unassign(1, 1), assign(1, 1))[-3:], [[0], [-8], [0]])

    def test_whatever_the_roster_is_then(self):
        self.assertEqual(fault([(2000, 2100), (2200, 2300), (2400, 2500)], unassign(1, 1)), [1, 1])
        self.assertEqual(fault([(2000, 2100), (2200, 2300), (2400, 2500)], unassign(1, 2)), [1, 2])
        self.assertEqual(fault([(2000, 2100), (2200, 2300), (2400, 2500)], unassign(1, 3)), [0, 0])

    def test_only_this_leg_is_gone(self):
        calls = [*hops([(2000, 2100), (2200, 2300)]), member(1), assign(1, 1), assign(1, 2), unassign(1, 1)]
        self.assertEqual(ask(*calls, has(1, 1), has(1, 2))[-2:], [[-8], [0]])


if __name__ == "__main__":
    unittest.main()
