"""Points [5] and [23]: the shared grids of a number, and how many there are."""

import itertools
import math
import unittest

from reference import is_shared_by_the_sentence, is_stair, is_stair_in_kind, is_turn_by_the_sentence, is_turn_in_kind
from turngrid.dials import dial_stair
from turngrid.lists import how_many, shared_grids
from turngrid.shared import shared_stair
from turngrid.stairs import share
from turngrid.turns import turn_of

WHOLE = [(1, 0, 0), (0, 1, 0), (0, 0, 1)]


def how_many_by_the_sentence(m):
    if m % 2 == 0:
        return 0
    made = 1
    p = 3
    while m > 1:
        if p * p > m:
            p = m
        r = 0
        while m % p == 0:
            m //= p
            r += 1
        if r > 0:
            made *= (p + 1) * p ** (r - 1)
        p += 2
    return made


class SharedGridsTest(unittest.TestCase):
    def check(self, m):
        found = shared_grids(m)
        self.assertIs(type(found), list)
        for pair in found:
            self.assertIs(type(pair), tuple)
            stair, turn = pair
            self.assertTrue(is_stair_in_kind(stair), stair)
            self.assertTrue(is_stair(stair), stair)
            self.assertEqual(share(stair), m)
            self.assertTrue(is_turn_in_kind(turn), turn)
            self.assertTrue(is_turn_by_the_sentence(turn), turn)
            # One point in m is in the stair's grid, and one in as many as the bottom is shared.
            self.assertEqual(turn[1], m)
            for point in stair:
                self.assertTrue(is_shared_by_the_sentence(turn, point), pair)
            self.assertEqual(shared_stair(turn), stair)
        stairs = [pair[0] for pair in found]
        for one, other in itertools.pairwise(stairs):
            self.assertLess(one, other)
        self.assertEqual(len(found), how_many_by_the_sentence(m), m)
        return stairs

    def test_one(self):
        self.assertEqual(self.check(1), [WHOLE])

    def test_reckoned_by_hand(self):
        # Just the w with two numbers other than 0 whose squares sum to a multiple of m, or three such.
        self.assertEqual(self.check(3), [[(1, 0, c), (0, 1, e), (0, 0, 3)] for c in (1, 2) for e in (1, 2)])
        self.assertEqual(
            self.check(5),
            [
                [(1, 0, 0), (0, 1, 2), (0, 0, 5)],
                [(1, 0, 0), (0, 1, 3), (0, 0, 5)],
                [(1, 0, 2), (0, 1, 0), (0, 0, 5)],
                [(1, 0, 3), (0, 1, 0), (0, 0, 5)],
                [(1, 2, 0), (0, 5, 0), (0, 0, 1)],
                [(1, 3, 0), (0, 5, 0), (0, 0, 1)],
            ],
        )

    def test_even(self):
        for m in range(2, 100, 2):
            found = shared_grids(m)
            self.assertIs(type(found), list)
            self.assertEqual(found, [])

    def test_odd(self):
        for m in range(1, 100, 2):
            self.check(m)

    def test_the_shared_stairs_of_all_turns(self):
        # A plain quad's size is the bottom, or it twice or four times: so no other quads have bottoms to 13.
        found = {}
        for quad in itertools.product(range(8), range(-7, 8), range(-7, 8), range(-7, 8)):
            size = sum(number * number for number in quad)
            if 0 < size <= 52 and math.gcd(*quad) == 1:
                turn = turn_of(quad)
                if turn[1] <= 13:
                    found.setdefault(turn[1], set()).add(tuple(shared_stair(turn)))
        self.assertEqual(sorted(found), list(range(1, 14, 2)))
        for m, stairs in found.items():
            self.assertEqual(self.check(m), [list(stair) for stair in sorted(stairs)], m)

    def test_the_stairs_of_all_dials_with_turns(self):
        for m in (9, 15, 21, 25, 27, 35):
            found = set()
            for w in itertools.product(range(m), repeat=3):
                if sum(number * number for number in w) % m == 0 and math.gcd(m, *w) == 1:
                    found.add(tuple(dial_stair((w, m))))
            self.assertEqual(self.check(m), [list(stair) for stair in sorted(found)], m)

    def test_somewhat_beyond(self):
        for m in (101, 105, 121, 135, 225):
            self.check(m)
        self.assertEqual(shared_grids(100), [])

    def test_a_list_told_later_is_the_same(self):
        for m in (1, 9, 15):
            first = shared_grids(m)
            kept = [(list(stair), turn) for stair, turn in first]
            second = shared_grids(m)
            self.assertIsNot(first, second)
            for pair, again in zip(first, second):
                self.assertIsNot(pair[0], again[0])
                pair[0].clear()
            first.clear()
            self.assertEqual(second, kept)
            self.assertEqual(shared_grids(m), kept)


class HowManyTest(unittest.TestCase):
    def check(self, m, answer):
        found = how_many(m)
        self.assertIs(type(found), int)
        self.assertEqual(found, answer, m)

    def test_reckoned_by_hand(self):
        self.check(1, 1)
        self.check(3, 4)
        self.check(5, 6)
        self.check(9, 12)
        self.check(15, 24)
        self.check(27, 36)
        self.check(45, 72)
        self.check(99, 144)
        self.check(105, 192)

    def test_even(self):
        for m in list(range(2, 1000, 2)) + [2 ** 19, 500000, 999998, 1000000]:
            self.check(m, 0)

    def test_as_many_as_are_listed(self):
        for m in range(1, 100):
            self.check(m, len(shared_grids(m)))

    def test_by_the_sentence(self):
        for m in itertools.chain(range(1, 4000), range(999000, 1000001), range(1, 1000000, 997)):
            self.check(m, how_many_by_the_sentence(m))

    def test_primes(self):
        for p in (7, 97, 997, 1009, 99991, 999979, 999983):
            self.check(p, p + 1)

    def test_powers_of_primes(self):
        self.check(3 ** 12, 4 * 3 ** 11)
        self.check(5 ** 8, 6 * 5 ** 7)
        self.check(7 ** 7, 8 * 7 ** 6)
        self.check(31 ** 4, 32 * 31 ** 3)
        self.check(97 ** 3, 98 * 97 ** 2)
        self.check(997 ** 2, 998 * 997)

    def test_products(self):
        self.check(3 * 5 * 7 * 11 * 13 * 17, 4 * 6 * 8 * 12 * 14 * 18)
        self.check(999999, 4 * 9 * 8 * 12 * 14 * 38)
        self.check(757 * 1321, 758 * 1322)
        self.check(3 * 5 ** 2 * 7 ** 2 * 11, 4 * 6 * 5 * 8 * 7 * 12)
        self.check(3 ** 2 * 99991, 4 * 3 * 99992)

    def test_somewhat_beyond(self):
        self.check(1000003, 1000004)
        self.check(1009 ** 2, 1010 * 1009)
        self.check(1000002, 0)


if __name__ == "__main__":
    unittest.main()
