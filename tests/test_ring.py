"""The token between its visits (points 150 and 151)."""

import unittest

from vancourier.ring import first_token, next_token


class RingTest(unittest.TestCase):
    def test_the_first_token(self):
        self.assertEqual(first_token(50), (1, 0, 51, 0))
        self.assertEqual(first_token(0), (1, 0, 1, 0))
        self.assertEqual(first_token(1000), (1, 0, 1001, 0))

    def test_the_sum_0_makes_the_low_the_horizon(self):
        self.assertEqual(next_token((1, 0, 7, 0), 50), (2, 0, 51, 7))
        self.assertEqual(next_token((8, 0, 51, 12), 50), (9, 0, 51, 51))
        self.assertEqual(next_token((3, 0, 0, 0), 0), (4, 0, 1, 0))

    def test_another_sum_keeps_round_and_horizon(self):
        for balance in (1, -1, 2, 37, -400):
            self.assertEqual(next_token((1, balance, 7, 0), 50), (1, 0, 51, 0))
            self.assertEqual(next_token((6, balance, 20, 12), 50), (6, 0, 51, 12))


if __name__ == "__main__":
    unittest.main()
