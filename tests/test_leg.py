"""Point 1: leg."""

import unittest

from tests.talk import ask, assign, check, fits, last, leg, member


class Ranges(unittest.TestCase):
    def test_airports(self):
        for airport, wanted in ((0, [0, 1]), (17575, [0, 1]), (-1, [-2]), (17576, [-2])):
            with self.subTest(airport=airport):
                self.assertEqual(last(leg(airport, 5, 2000, 2100)), wanted)
                self.assertEqual(last(leg(5, airport, 2000, 2100)), wanted)

    def test_moments(self):
        self.assertEqual(last(leg(0, 1, -1, 100)), [-2])
        self.assertEqual(last(leg(0, 1, 0, 100)), [-5])
        self.assertEqual(last(leg(0, 1, 10000000, 10000000)), [-5])
        self.assertEqual(last(leg(0, 1, 10000001, 10000000)), [-2])
        self.assertEqual(last(leg(0, 1, 2000, -1)), [-2])
        self.assertEqual(last(leg(0, 1, 2000, 0)), [-5])
        self.assertEqual(last(leg(0, 1, 9999999, 10000000)), [0, 1])
        self.assertEqual(last(leg(0, 1, 9999999, 10000001)), [-2])

    def test_three_needs(self):
        for many in (0, 1, 2, 4, 5, 30):
            with self.subTest(many=many):
                self.assertEqual(last(leg(0, 1, 2000, 2100, (1,) * many)), [-2])

    def test_each_need_at_its_ends_and_beyond(self):
        for k in range(3):
            for need, wanted in ((0, [0, 1]), (4, [0, 1]), (-1, [-2]), (5, [-2])):
                needs = [2, 2, 2]
                needs[k] = need
                with self.subTest(needs=needs):
                    self.assertEqual(last(leg(0, 1, 2000, 2100, needs)), wanted)


class Refusals(unittest.TestCase):
    def test_alike_airports(self):
        self.assertEqual(last(leg(7, 7, 2000, 2100)), [-5])

    def test_dep_below_1440(self):
        self.assertEqual(last(leg(0, 1, 1439, 1500)), [-5])
        self.assertEqual(last(leg(0, 1, 1440, 1500)), [0, 1])

    def test_arr_not_after_dep(self):
        self.assertEqual(last(leg(0, 1, 2000, 1999)), [-5])
        self.assertEqual(last(leg(0, 1, 2000, 2000)), [-5])
        self.assertEqual(last(leg(0, 1, 2000, 2001)), [0, 1])

    def test_arr_more_than_1200_after_dep(self):
        self.assertEqual(last(leg(0, 1, 2000, 3200)), [0, 1])
        self.assertEqual(last(leg(0, 1, 2000, 3201)), [-5])

    def test_range_comes_before_what_is_wrong(self):
        self.assertEqual(last(leg(7, 7, 1000, 900, (1, 1, 5))), [-2])
        self.assertEqual(last(leg(7, 7, 1000, 900, (1, 1))), [-2])

    def test_sixty_legs(self):
        told = ask(*[leg(0, 1, 2000, 2100)] * 60, leg(0, 1, 2000, 2100), leg(1, 1, 2000, 2100), leg(0, 1, 2000, 2000),
                   leg(0, -1, 2000, 2100))
        self.assertEqual(told, [[0, k] for k in range(1, 61)] + [[-6], [-5], [-5], [-2]])

    def test_a_refusal_makes_no_leg(self):
        told = ask(leg(0, 1, 2000, 2100), leg(1, 1, 2000, 2100), leg(0, 1, 2000, 2100, (1,)), member(1), assign(1, 2),
                   leg(0, 1, 2000, 2100))
        self.assertEqual(told[-2:], [[-7], [0, 2]])


class Answer(unittest.TestCase):
    def test_legs_may_be_alike(self):
        self.assertEqual(ask(leg(0, 1, 2000, 2100), leg(0, 1, 2000, 2100)), [[0, 1], [0, 2]])

    def test_what_is_told_is_kept(self):
        calls = [leg(3, 4, 2000, 2100, (0, 1, 2)), leg(4, 5, 2100, 2200, (1, 1, 1))]
        calls += [member(1, 3, 1), member(2, 4, 1), member(3, 3, 0)]
        told = ask(*calls, assign(3, 1), assign(2, 1), assign(1, 1), assign(1, 2), check(1), fits(2, 1))
        self.assertEqual(told[-6:], [[-9], [-11], [0], [0], [0, 0, 0], [0, 2]])


if __name__ == "__main__":
    unittest.main()
