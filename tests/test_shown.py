"""Point 16: shown."""

import unittest

from tests.talk import ask, assign, delay, fill, granted, last, leg, member, roster, rules, shown, swap, unassign

PLAIN = leg(3, 17575, 2000, 2100, (1, 2, 3))


class Refusals(unittest.TestCase):
    def test_ranges(self):
        told = [0, 3, 17575, 2000, 2100, 1, 2, 3, 0, 0, 0]
        for place, wanted in ((-1, [-2]), (0, [-2]), (1, told), (2, [-7]), (60, [-7]), (61, [-2])):
            with self.subTest(place=place):
                self.assertEqual(last(PLAIN, shown(place)), wanted)

    def test_the_last_of_sixty_legs(self):
        calls = [leg(0, 1, 2000 + k, 2100 + k, (k % 5, 0, 0)) for k in range(60)]
        self.assertEqual(granted(*calls, shown(60)), [0, 1, 2059, 2159, 4, 0, 0, 0, 0, 0])

    def test_no_leg_at_all(self):
        self.assertEqual(ask(shown(1), member(1), shown(1)), [[-7], [0], [-7]])

    def test_a_refusal_changes_nothing(self):
        self.assertEqual(ask(PLAIN, shown(2), shown(61), leg(0, 1, 3000, 3100), shown(2))[3:],
                         [[0, 2], [0, 0, 1, 3000, 3100, 4, 4, 4, 0, 0, 0]])


class Told(unittest.TestCase):
    def test_each_number_in_its_place(self):
        calls = [leg(7, 8, 3000, 3055, (4, 3, 2)), member(1, 7, 0), member(2, 7, 0), member(3, 7, 0), member(4, 7, 1),
                 member(5, 7, 1), member(6, 7, 2)] + [assign(number, 1) for number in range(1, 7)]
        self.assertEqual(granted(*calls, shown(1)), [7, 8, 3000, 3055, 4, 3, 2, 3, 2, 1])

    def test_each_leg_its_own(self):
        calls = [leg(0, 1, 2000, 2100, (1, 0, 0)), leg(1, 0, 2200, 2350, (0, 2, 0)), member(1), member(2, 1, 1)]
        told = ask(*calls, assign(1, 1), assign(2, 2), shown(1), shown(2))
        self.assertEqual(told[6:], [[0, 0, 1, 2000, 2100, 1, 0, 0, 1, 0, 0], [0, 1, 0, 2200, 2350, 0, 2, 0, 0, 1, 0]])

    def test_a_leg_that_was_refused_takes_no_place(self):
        calls = [leg(0, 0, 2000, 2100), PLAIN, shown(1)]
        self.assertEqual(last(*calls), [0, 3, 17575, 2000, 2100, 1, 2, 3, 0, 0, 0])


class Changes(unittest.TestCase):
    def test_delay(self):
        told = ask(PLAIN, delay(1, 40), shown(1), delay(1, -600), shown(1), delay(1, -1), shown(1))
        self.assertEqual(told[1:], [[0], [0, 3, 17575, 2040, 2140, 1, 2, 3, 0, 0, 0],
                                    [0], [0, 3, 17575, 1440, 1540, 1, 2, 3, 0, 0, 0],
                                    [-5], [0, 3, 17575, 1440, 1540, 1, 2, 3, 0, 0, 0]])

    def test_a_delay_keeps_who_has_it(self):
        calls = [leg(0, 1, 2000, 2100), leg(1, 0, 2200, 2300), member(1), assign(1, 1), assign(1, 2), delay(1, 500)]
        self.assertEqual(ask(*calls, shown(1), shown(2))[-2:], [[0, 0, 1, 2500, 2600, 4, 4, 4, 1, 0, 0],
                                                                [0, 1, 0, 2200, 2300, 4, 4, 4, 1, 0, 0]])

    def test_assign_and_unassign(self):
        calls = [leg(0, 1, 2000, 2100, (1, 1, 0)), member(1), member(2), member(3, 0, 1)]
        told = ask(*calls, assign(1, 1), shown(1), assign(2, 1), assign(3, 1), shown(1), unassign(1, 1), shown(1),
                   unassign(1, 1), shown(1))
        self.assertEqual([answer[8:] for answer in told if len(answer) == 11],
                         [[1, 0, 0], [1, 1, 0], [0, 1, 0], [0, 1, 0]])
        self.assertEqual([answer for answer in told[4:] if len(answer) == 1], [[0], [-9], [0], [0], [-8]])

    def test_swap(self):
        calls = [leg(0, 1, 2000, 2100), leg(0, 1, 2000, 2100), member(1), member(2), member(3), assign(1, 1),
                 assign(3, 1), assign(2, 2), swap(1, 2, 0), shown(1), shown(2), roster(1), roster(2), roster(3)]
        self.assertEqual(ask(*calls)[8:], [[0], [0, 0, 1, 2000, 2100, 4, 4, 4, 2, 0, 0],
                                           [0, 0, 1, 2000, 2100, 4, 4, 4, 1, 0, 0], [0, 2], [0, 1], [0, 1]])

    def test_a_refused_swap(self):
        calls = [leg(0, 1, 2000, 2100), member(1), member(2, 1), assign(1, 1), swap(1, 2, 0), shown(1), roster(1)]
        self.assertEqual(ask(*calls)[4:], [[-11], [0, 0, 1, 2000, 2100, 4, 4, 4, 1, 0, 0], [0, 1]])

    def test_fill(self):
        calls = [leg(0, 1, 2000, 2100, (2, 1, 1)), member(1), member(2), member(3), member(4, 0, 1), fill(1), shown(1)]
        self.assertEqual(ask(*calls)[5:], [[0, 1, 2, 4], [0, 0, 1, 2000, 2100, 2, 1, 1, 2, 1, 0]])

    def test_rules_change_nothing_of_it(self):
        calls = [leg(0, 1, 2000, 2100), member(1), assign(1, 1), rules(longest=(0,) * 8), shown(1)]
        self.assertEqual(ask(*calls)[3:], [[0, 1], [0, 0, 1, 2000, 2100, 4, 4, 4, 1, 0, 0]])


if __name__ == "__main__":
    unittest.main()
