"""Points [2], [3] and [6]: whole numbers."""

import math
import unittest

from turngrid.wholes import divisor, is_whole, makings, odd_part, primes_of

# Three hundred figures each.
LARGE = 10 ** 300 - 1
LARGE_TOO = 7 ** 354


def is_prime(n):
    return n > 1 and all(n % k for k in range(2, math.isqrt(n) + 1))


class LargeNumbersTest(unittest.TestCase):
    def test_the_large_numbers_have_three_hundred_figures(self):
        self.assertEqual([len(str(LARGE)), len(str(LARGE_TOO))], [300, 300])


class IsWholeTest(unittest.TestCase):
    def test_whole_numbers(self):
        for thing in (0, 1, -1, 2, 255, 256, 257, -1000, LARGE, -LARGE):
            self.assertIs(is_whole(thing), True, thing)

    def test_truths_are_no_whole_numbers(self):
        self.assertIs(is_whole(True), False)
        self.assertIs(is_whole(False), False)

    def test_other_things_are_no_whole_numbers(self):
        things = [None, "", "1", "-1", [], [1], (), (1,), {}, {1: 1}, 1.0, 0.5, b"1", {1}, object(), int]
        for thing in things:
            self.assertIs(is_whole(thing), False, thing)


class DivisorTest(unittest.TestCase):
    def check(self, numbers, answer):
        for handed in (list(numbers), tuple(numbers)):
            found = divisor(handed)
            self.assertIs(type(found), int, numbers)
            self.assertEqual(found, answer, numbers)

    def test_of_none_and_of_noughts(self):
        self.check([], 0)
        self.check([0], 0)
        self.check([0, 0, 0], 0)

    def test_of_one_number(self):
        self.check([1], 1)
        self.check([12], 12)
        self.check([-12], 12)

    def test_of_several(self):
        self.check([12, 18], 6)
        self.check([18, 12], 6)
        self.check([6, 10, 15], 1)
        self.check([30, 42, 70, 105], 1)
        self.check([60, 84, 140], 4)
        self.check([7, 7], 7)
        self.check([1, 0], 1)

    def test_noughts_among_others(self):
        self.check([0, 5], 5)
        self.check([5, 0], 5)
        self.check([0, 4, 0, 6, 0], 2)
        self.check([0, -9], 9)

    def test_below_nought_there_is_no_sign(self):
        self.check([-12, 18], 6)
        self.check([12, -18], 6)
        self.check([-12, -18], 6)
        self.check([-7, -7], 7)
        self.check([-1, 5], 1)

    def test_all_small_ones(self):
        for one in range(-30, 31):
            for other in range(-30, 31):
                self.check([one, other], math.gcd(one, other))

    def test_three_hundred_figures(self):
        self.check([LARGE], LARGE)
        self.check([-LARGE, 0], LARGE)
        self.check([LARGE, LARGE_TOO], math.gcd(LARGE, LARGE_TOO))
        shared = 10 ** 149 + 7
        self.check([shared * 6 ** 180, -shared * 10 ** 140], shared * 2 ** 140)

    def test_forty_numbers(self):
        self.check([30 * k for k in range(-20, 20)], 30)
        self.check([12 * k + 24 for k in range(39)] + [9], 3)

    def test_figures_that_were_told_are_handed_in_again(self):
        self.check([LARGE ** 6, LARGE ** 5 * 3], LARGE ** 5 * 3)

    def test_the_list_is_the_same_behind(self):
        numbers = [12, -18, 0, 30]
        divisor(numbers)
        self.assertEqual(numbers, [12, -18, 0, 30])
        self.assertEqual(divisor(numbers), 6)
        numbers.append(4)
        self.assertEqual(divisor(numbers), 2)


class OddPartTest(unittest.TestCase):
    def test_of_one_and_of_odd_numbers(self):
        for n in [1, 3, 5, 7, 9, 15, 999999, LARGE, LARGE_TOO]:
            self.assertEqual(odd_part(n), n)

    def test_of_even_numbers(self):
        told = {2: 1, 4: 1, 6: 3, 8: 1, 10: 5, 12: 3, 20: 5, 24: 3, 96: 3, 100: 25, 1000000: 15625}
        for n, answer in told.items():
            self.assertEqual(odd_part(n), answer)
            self.assertIs(type(odd_part(n)), int)

    def test_of_numbers_doubled_many_times(self):
        for odd in (1, 3, 17, 10 ** 50 + 1):
            for times in (1, 2, 10, 63, 64, 65, 500, 990):
                self.assertEqual(odd_part(odd * 2 ** times), odd)


class MakingsTest(unittest.TestCase):
    def check(self, one, other):
        found = makings(one, other)
        self.assertIs(type(found), tuple, (one, other))
        self.assertEqual([type(number) for number in found], [int, int, int], (one, other))
        d, a, b = found
        self.assertEqual(d, math.gcd(one, other), (one, other))
        self.assertEqual(a * one + b * other, d, (one, other))
        self.assertEqual(makings(one, other), found)

    def test_small_ones_of_either_sign(self):
        for one in range(-40, 41):
            for other in range(-40, 41):
                self.check(one, other)

    def test_nought_on_either_side_and_on_both(self):
        for number in (1, -1, 5, -5, LARGE, -LARGE):
            self.check(0, number)
            self.check(number, 0)
        self.check(0, 0)
        self.assertEqual(makings(0, 0)[0], 0)

    def test_large_ones(self):
        large = [LARGE, LARGE_TOO, 3 ** 600, 6 ** 385, 10 ** 299, 10 ** 150 + 1, 2, 1]
        for one in large:
            for other in large:
                for sign in (1, -1):
                    self.check(one, sign * other)
                    self.check(-one, sign * other)


class PrimesOfTest(unittest.TestCase):
    def check(self, n, answer):
        found = primes_of(n)
        self.assertIs(type(found), list, n)
        self.assertEqual(found, answer, n)

    def test_of_one_there_are_none(self):
        self.check(1, [])

    def test_of_primes(self):
        for prime in (2, 3, 5, 7, 11, 13, 97, 101, 997, 1009, 65537, 999983):
            self.check(prime, [prime])

    def test_of_squares_of_primes(self):
        for prime in (2, 3, 5, 7, 11, 31, 97, 991, 997):
            self.check(prime * prime, [prime, prime])

    def test_of_many_primes(self):
        self.check(12, [2, 2, 3])
        self.check(360, [2, 2, 2, 3, 3, 5])
        self.check(510510, [2, 3, 5, 7, 11, 13, 17])
        self.check(2 ** 19, [2] * 19)
        self.check(3 ** 12, [3] * 12)
        self.check(720720, [2, 2, 2, 2, 3, 3, 5, 7, 11, 13])

    def test_of_a_million_and_numbers_near_it(self):
        self.check(1000000, [2] * 6 + [5] * 6)
        self.check(999999, [3, 3, 3, 7, 11, 13, 37])
        self.check(999998, [2, 31, 127, 127])
        self.check(999997, [757, 1321])
        self.check(999979, [999979])

    def test_somewhat_beyond_a_million(self):
        self.check(1000003, [1000003])
        self.check(1009 * 1013, [1009, 1013])

    def test_rising_primes_with_the_number_as_product(self):
        for n in list(range(1, 3000)) + list(range(999800, 1000001)):
            found = primes_of(n)
            self.assertEqual(math.prod(found), n)
            self.assertEqual(found, sorted(found))
            self.assertTrue(all(is_prime(prime) for prime in set(found)), n)

    def test_a_new_list_each_time(self):
        for n in (1, 2, 7, 60):
            first = primes_of(n)
            second = primes_of(n)
            self.assertEqual(first, second)
            self.assertIsNot(first, second)
            kept = list(first)
            first.append(0)
            self.assertEqual(second, kept)
            self.assertEqual(primes_of(n), kept)


if __name__ == "__main__":
    unittest.main()
