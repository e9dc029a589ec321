"""Point [13]: sums of four squares."""

import unittest

from turngrid.fours import four_squares


class FourSquaresTest(unittest.TestCase):
    def check(self, n):
        found = four_squares(n)
        self.assertIs(type(found), tuple, n)
        self.assertEqual([type(number) for number in found], [int] * 4, n)
        self.assertGreaterEqual(min(found), 0, n)
        self.assertEqual(sum(number * number for number in found), n)
        self.assertEqual(four_squares(n), found)

    def test_nought_and_one(self):
        self.assertEqual(four_squares(0), (0, 0, 0, 0))
        self.assertEqual(sorted(four_squares(1)), [0, 0, 0, 1])

    def test_each_number_up_to_ten_thousand(self):
        for n in range(10001):
            self.check(n)

    def test_numbers_that_need_all_four(self):
        for k in range(40):
            for power in range(6):
                n = 4 ** power * (8 * k + 7)
                if n <= 20000:
                    self.check(n)
                    self.assertGreaterEqual(min(four_squares(n)), 1, n)

    def test_ten_thousand_and_somewhat_beyond(self):
        for n in range(9990, 10200):
            self.check(n)
        for n in (16383, 28672, 65535, 100007, 114688):
            self.check(n)


if __name__ == "__main__":
    unittest.main()
