"""Point 14: open."""

import unittest

from tests.talk import ask, assign, crew, delay, fill, granted, leg, member, rules, swap, unassign, unmet


class Needs(unittest.TestCase):
    def test_no_legs(self):
        self.assertEqual(ask(unmet()), [[0]])
        self.assertEqual(ask(member(1), unmet())[1], [0])

    def test_not_met_at_all(self):
        self.assertEqual(granted(leg(0, 1, 2000, 2100, (1, 2, 3)), unmet()), [1, 1, 2, 3])
        self.assertEqual(granted(leg(0, 1, 2000, 2100, (4, 4, 4)), *crew(0, 1, 2), unmet()), [1, 4, 4, 4])

    def test_a_leg_that_needs_nobody(self):
        self.assertEqual(granted(leg(0, 1, 2000, 2100, (0, 0, 0)), unmet()), [])

    def test_each_rank_alone_makes_it_told(self):
        for needs in ((1, 0, 0), (0, 1, 0), (0, 0, 1)):
            with self.subTest(needs=needs):
                self.assertEqual(granted(leg(0, 1, 2000, 2100, needs), unmet()), [1, *needs])

    def test_met_in_part(self):
        calls = [leg(0, 1, 2000, 2100, (2, 1, 3)), *crew(0, 1, 2, 2)]
        told = ask(*calls, assign(1, 1), unmet(), assign(2, 1), unmet(), assign(3, 1), assign(4, 1), unmet())
        self.assertEqual([told[6], told[8], told[11]], [[0, 1, 1, 1, 3], [0, 1, 1, 0, 3], [0, 1, 1, 0, 1]])

    def test_met(self):
        calls = [leg(0, 1, 2000, 2100, (1, 1, 1)), *crew(0, 1, 2), assign(1, 1), assign(2, 1), assign(3, 1)]
        self.assertEqual(granted(*calls, unmet()), [])

    def test_by_places(self):
        calls = [leg(0, 1, 9000, 9100, (0, 0, 2)), leg(0, 1, 2000, 2100, (0, 0, 0)), leg(0, 1, 5000, 5100, (1, 0, 0)),
                 leg(0, 1, 3000, 3100, (1, 0, 0)), leg(0, 1, 1500, 1600, (0, 3, 1)), *crew(0, 1), assign(1, 3)]
        self.assertEqual(granted(*calls, unmet()), [1, 0, 0, 2, 4, 1, 0, 0, 5, 0, 3, 1])

    def test_sixty_legs(self):
        calls = [leg(0, 1, 2000, 2100, (1, 0, 4))] * 60
        self.assertEqual(granted(*calls, unmet()), [number for p in range(1, 61) for number in (p, 1, 0, 4)])


class Changes(unittest.TestCase):
    def test_unassign(self):
        calls = [leg(0, 1, 2000, 2100, (1, 0, 0)), *crew(0), assign(1, 1), unmet(), unassign(1, 1), unmet()]
        self.assertEqual(ask(*calls)[3:], [[0], [0], [0, 1, 1, 0, 0]])

    def test_fill(self):
        calls = [leg(0, 1, 2000, 2100, (2, 1, 1)), leg(0, 1, 2000, 2100, (1, 0, 0)), *crew(0, 0, 0, 1)]
        told = ask(*calls, fill(1), unmet(), fill(2), unmet())
        self.assertEqual(told[6:], [[0, 1, 2, 4], [0, 1, 0, 0, 1, 2, 1, 0, 0], [0, 3], [0, 1, 0, 0, 1]])

    def test_swap(self):
        calls = [leg(0, 1, 2000, 2100, (2, 0, 0)), leg(0, 1, 2000, 2100, (1, 0, 0)), *crew(0, 0), assign(1, 1)]
        told = ask(*calls, unmet(), swap(1, 2, 0), unmet(), assign(1, 2), unmet())
        both = [0, 1, 1, 0, 0, 2, 1, 0, 0]
        self.assertEqual(told[5:], [both, [0], both, [0], [0, 1, 1, 0, 0]])

    def test_what_changes_no_needs(self):
        calls = [leg(0, 1, 2000, 2100, (1, 0, 0)), leg(1, 0, 2200, 2300, (1, 1, 0)), *crew(0)]
        calls += [assign(1, 1), assign(1, 2), unmet(), delay(1, 500), unmet(), rules(longest=(0,) * 8), unmet()]
        self.assertEqual(ask(*calls)[5::2], [[0, 2, 0, 1, 0]] * 3)

    def test_a_refused_assign(self):
        calls = [leg(0, 1, 2000, 2100, (1, 0, 0)), *crew(0, 0, 1), member(4, 1), assign(4, 1), unmet()]
        told = ask(*calls, assign(1, 1), assign(2, 1), assign(3, 1), unmet())
        self.assertEqual(told[5:], [[-11], [0, 1, 1, 0, 0], [0], [-9], [-9], [0]])

    def test_nothing_is_changed(self):
        calls = [leg(0, 1, 2000, 2100, (1, 2, 3)), *crew(0), unmet(), unmet()]
        self.assertEqual(ask(*calls)[2:], [[0, 1, 1, 2, 3]] * 2)


if __name__ == "__main__":
    unittest.main()
