"""Point 2: member."""

import unittest

from tests.talk import ask, assign, check, fits, last, leg, member


class Member(unittest.TestCase):
    def test_ranges(self):
        for number, wanted in ((1, [0]), (1000000000, [0]), (0, [-2]), (-5, [-2]), (1000000001, [-2])):
            with self.subTest(number=number):
                self.assertEqual(last(member(number)), wanted)
        for base, wanted in ((0, [0]), (17575, [0]), (-1, [-2]), (17576, [-2])):
            with self.subTest(base=base):
                self.assertEqual(last(member(1, base)), wanted)
        for rank, wanted in ((0, [0]), (1, [0]), (2, [0]), (-1, [-2]), (3, [-2])):
            with self.subTest(rank=rank):
                self.assertEqual(last(member(1, 0, rank)), wanted)

    def test_known_id(self):
        self.assertEqual(ask(member(4, 1, 1), member(4, 2, 2), member(4, 1, 1)), [[0], [-4], [-4]])

    def test_range_comes_before_known_id(self):
        self.assertEqual(ask(member(4), member(4, 0, 3), member(4, -1)), [[0], [-2], [-2]])

    def test_thirty_members(self):
        told = ask(*[member(k) for k in range(1, 31)], member(31), member(30), member(31, 0, 3), check(31), check(30))
        self.assertEqual(told, [[0]] * 30 + [[-6], [-4], [-2], [-3], [0, 0, 0]])

    def test_a_refusal_changes_nothing(self):
        calls = [leg(5, 6, 2000, 2100), member(4, 5, 1), member(4, 6, 2)]
        self.assertEqual(ask(*calls, fits(1, 2), fits(1, 1), assign(4, 1))[-3:], [[0], [0, 4], [0]])

    def test_base_and_rank_are_kept(self):
        calls = [leg(5, 6, 2000, 2100, (0, 0, 1)), member(4, 5, 2), member(8, 6, 2), member(9, 5, 0)]
        self.assertEqual(ask(*calls, assign(9, 1), assign(8, 1), assign(4, 1))[-3:], [[-9], [-11], [0]])


if __name__ == "__main__":
    unittest.main()
