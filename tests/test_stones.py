"""Points [10], [11] and [12]: stones."""

import itertools
import unittest
from fractions import Fraction

from turngrid import errors
from turngrid.stones import common, divided, stone_product, weight

NOUGHT = (0, 0, 0, 0)
ONE = (2, 0, 0, 0)
THIRTY = 123456789012345678901234567891
LARGE = 10 ** 300 - 1
EVEN_STONES = list(itertools.product((-4, 0, 2), repeat=4))
ODD_STONES = list(itertools.product((-3, -1, 5), repeat=4))
SMALL_STONES = EVEN_STONES + ODD_STONES
LARGE_STONES = [
    (LARGE, -LARGE, LARGE - 2, 1),
    (10 ** 299, 10 ** 298, -(10 ** 297), 0),
    (THIRTY, -3, THIRTY + 2, 7 ** 30),
    (2 * THIRTY, 0, -(10 ** 29), 6),
    (7 ** 354, 3 ** 628, -(5 ** 429), 11 ** 287),
    (0, 0, 0, 2 ** 990),
]
SOME_STONES = SMALL_STONES[::5] + LARGE_STONES


def product_of_halves(one, other):
    a, b, c, d = [Fraction(number, 2) for number in one]
    e, f, g, h = [Fraction(number, 2) for number in other]
    return (
        a * e - b * f - c * g - d * h,
        a * f + b * e + c * h - d * g,
        a * g - b * h + c * e + d * f,
        a * h + b * g - c * f + d * e,
    )


def added(one, other):
    return tuple(x + y for x, y in zip(one, other))


class StonesTest(unittest.TestCase):
    def check_stone(self, stone):
        self.assertIs(type(stone), tuple)
        self.assertEqual([type(number) for number in stone], [int] * 4)
        self.assertEqual(len({number % 2 for number in stone}), 1, stone)


class StoneProductTest(StonesTest):
    def test_reckoned_by_hand(self):
        self.assertEqual(stone_product((2, 4, 6, 8), (10, 12, 14, 16)), (-120, 24, 60, 48))
        self.assertEqual(stone_product((1, 1, 1, 1), (1, 1, 1, 1)), (-1, 1, 1, 1))
        self.assertEqual(stone_product((1, 1, 1, 1), (1, -1, -1, -1)), ONE)
        self.assertEqual(stone_product((0, 2, 0, 0), (0, 0, 2, 0)), (0, 0, 0, 2))
        self.assertEqual(stone_product((0, 0, 2, 0), (0, 2, 0, 0)), (0, 0, 0, -2))
        self.assertEqual(stone_product((0, 2, 0, 0), (1, 1, 1, 1)), (-1, 1, -1, 1))
        self.assertEqual(stone_product((1, 1, 1, 1), (0, 2, 0, 0)), (-1, 1, 1, -1))

    def test_the_product_of_the_halves(self):
        for one in SOME_STONES:
            for other in SOME_STONES:
                found = stone_product(one, other)
                self.check_stone(found)
                halves = tuple(Fraction(number, 2) for number in found)
                self.assertEqual(halves, product_of_halves(one, other), (one, other))

    def test_with_whole_numbers_as_stones(self):
        for stone in SMALL_STONES + LARGE_STONES:
            for n in (1, 0, -1, 3, THIRTY):
                multiple = tuple(n * number for number in stone)
                self.assertEqual(stone_product((2 * n, 0, 0, 0), stone), multiple)
                self.assertEqual(stone_product(stone, (2 * n, 0, 0, 0)), multiple)


class WeightTest(StonesTest):
    def test_reckoned_by_hand(self):
        told = {NOUGHT: 0, ONE: 1, (1, 1, 1, 1): 1, (1, -1, 1, 3): 3, (2, 4, 6, 8): 30, (3, 3, -3, 5): 13}
        for stone, answer in told.items():
            self.assertEqual(weight(stone), answer)

    def test_by_the_sentence(self):
        for stone in SMALL_STONES + LARGE_STONES:
            found = weight(stone)
            self.assertIs(type(found), int)
            self.assertEqual(4 * found, sum(number * number for number in stone))

    def test_weights_of_products(self):
        for one in SOME_STONES:
            for other in SOME_STONES:
                self.assertEqual(weight(stone_product(one, other)), weight(one) * weight(other))


class DividedTest(StonesTest):
    def check(self, x, y):
        found = divided(x, y)
        self.assertIs(type(found), tuple)
        self.assertEqual(len(found), 2)
        k, r = found
        self.check_stone(k)
        self.check_stone(r)
        self.assertEqual(added(stone_product(y, k), r), x, (x, y))
        self.assertLessEqual(2 * weight(r), weight(y), (x, y))
        self.assertEqual(divided(x, y), found)
        return found

    def test_small_ones_of_either_kind(self):
        for x in SMALL_STONES:
            for y in SMALL_STONES[::4]:
                if y != NOUGHT:
                    self.check(x, y)

    def test_small_and_large(self):
        for x in SOME_STONES:
            for y in SOME_STONES:
                if y != NOUGHT:
                    self.check(x, y)

    def test_a_rest_of_nought(self):
        for y in SOME_STONES:
            for k in SOME_STONES:
                if y != NOUGHT:
                    self.assertEqual(self.check(stone_product(y, k), y), (k, NOUGHT))

    def test_nought_divided(self):
        for y in SMALL_STONES + LARGE_STONES:
            if y != NOUGHT:
                self.assertEqual(self.check(NOUGHT, y), (NOUGHT, NOUGHT))

    def test_by_one_and_by_the_stones_of_weight_one(self):
        units = [stone for stone in itertools.product((-2, -1, 0, 1, 2), repeat=4) if sum(n * n for n in stone) == 4]
        self.assertEqual(len(units), 24)
        for x in SOME_STONES:
            for unit in units:
                self.assertEqual(self.check(x, unit)[1], NOUGHT)
            self.assertEqual(divided(x, ONE), (x, NOUGHT))

    def test_a_rest_of_just_half_the_weight(self):
        k, r = self.check((2, 2, 0, 0), (4, 0, 0, 0))
        self.assertEqual(2 * weight(r), 4)
        k, r = self.check((2, 0, 0, 0), (2, 2, 0, 0))
        self.assertEqual(2 * weight(r), 2)

    def test_by_all_small_whole_numbers(self):
        for n in range(1, 7):
            for stone in itertools.product((0, 1, 2, 3, 5), repeat=4):
                if len({number % 2 for number in stone}) == 1:
                    self.check(stone, (2 * n, 0, 0, 0))
                    self.check(stone, (-2 * n, 0, 0, 0))

    def test_by_four_noughts_refused(self):
        for x in (NOUGHT, ONE, (1, 1, 1, 1), LARGE_STONES[0]):
            with self.assertRaises(errors.NoStone):
                divided(x, NOUGHT)


class CommonTest(StonesTest):
    def check(self, x, y):
        found = common(x, y)
        self.assertIs(type(found), tuple)
        self.assertEqual(len(found), 5)
        for stone in found:
            self.check_stone(stone)
        s, a, b, u, v = found
        self.assertEqual(added(stone_product(x, a), stone_product(y, b)), s, (x, y))
        self.assertEqual(stone_product(s, u), x, (x, y))
        self.assertEqual(stone_product(s, v), y, (x, y))
        self.assertEqual(common(x, y), found)
        return s

    def test_small_ones_of_either_kind(self):
        for x in SMALL_STONES[::3]:
            for y in SMALL_STONES[::2]:
                self.check(x, y)

    def test_small_and_large(self):
        for x in LARGE_STONES + SMALL_STONES[::40]:
            for y in LARGE_STONES + SMALL_STONES[::40]:
                self.check(x, y)

    def test_of_stones_made_with_something_in_common(self):
        for left in SMALL_STONES[::11] + LARGE_STONES[:3]:
            for one, other in ((ONE, (3, 1, 1, 1)), ((1, 3, 5, 7), (4, 2, 0, 2)), ((6, 0, 2, 2), (5, 5, 1, 3))):
                s = self.check(stone_product(left, one), stone_product(left, other))
                if left != NOUGHT:
                    # s is a sum of products with left ahead, so left goes into it.
                    self.assertEqual(divided(s, left)[1], NOUGHT)

    def test_what_they_have_on_the_right_is_not_meant(self):
        right = (2, 4, 0, 0)
        s = self.check(stone_product((1, 3, 1, 1), right), stone_product((2, 2, 2, 0), right))
        self.assertEqual(weight(s), 1)

    def test_of_whole_numbers(self):
        self.assertEqual(weight(self.check((24, 0, 0, 0), (36, 0, 0, 0))), 36)
        self.assertEqual(weight(self.check((14, 0, 0, 0), (20, 0, 0, 0))), 1)
        self.assertEqual(weight(self.check((6, 0, 0, 0), (2, 2, 2, 0))), 3)

    def test_where_one_of_both_is_nought(self):
        for stone in SMALL_STONES + LARGE_STONES:
            if stone != NOUGHT:
                self.assertEqual(weight(self.check(stone, NOUGHT)), weight(stone))
                self.assertEqual(weight(self.check(NOUGHT, stone)), weight(stone))

    def test_where_both_are_nought(self):
        self.assertEqual(self.check(NOUGHT, NOUGHT), NOUGHT)

    def test_where_both_are_the_same(self):
        for stone in SOME_STONES:
            self.assertEqual(weight(self.check(stone, stone)), weight(stone))

    def test_what_was_told_is_handed_in_again(self):
        x = stone_product(LARGE_STONES[0], LARGE_STONES[4])
        y = stone_product(LARGE_STONES[0], LARGE_STONES[1])
        s, a, b, u, v = common(x, y)
        self.check(x, y)
        self.check(a, stone_product(b, u))


if __name__ == "__main__":
    unittest.main()
