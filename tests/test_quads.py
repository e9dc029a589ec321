"""Point [7]: quads."""

import itertools
import math
import unittest

from turngrid import errors
from turngrid.quads import mirrored, plain, product, size

LARGE = 10 ** 300 - 1
SMALL_QUADS = list(itertools.product((-2, -1, 0, 3), repeat=4))
LARGE_QUADS = [
    (LARGE, -LARGE, LARGE - 2, 1),
    (-LARGE, 0, 7 ** 350, -(3 ** 600)),
    (0, 0, 0, LARGE),
    (10 ** 299, 10 ** 298, -(10 ** 297), 10 ** 296),
]


def product_by_the_sentence(one, other):
    a, b, c, d = one
    e, f, g, h = other
    return (
        a * e - b * f - c * g - d * h,
        a * f + b * e + c * h - d * g,
        a * g - b * h + c * e + d * f,
        a * h + b * g - c * f + d * e,
    )


class QuadsTest(unittest.TestCase):
    def check_quad(self, found, answer):
        self.assertIs(type(found), tuple)
        self.assertEqual([type(number) for number in found], [int] * 4)
        self.assertEqual(found, answer)


class ProductTest(QuadsTest):
    def test_reckoned_by_hand(self):
        self.check_quad(product((1, 2, 3, 4), (5, 6, 7, 8)), (-60, 12, 30, 24))
        self.check_quad(product((5, 6, 7, 8), (1, 2, 3, 4)), (-60, 20, 14, 32))
        self.check_quad(product((0, 0, 0, 0), (5, 6, 7, 8)), (0, 0, 0, 0))

    def test_of_the_units(self):
        one, i, j, k = (1, 0, 0, 0), (0, 1, 0, 0), (0, 0, 1, 0), (0, 0, 0, 1)
        for quad in (one, i, j, k):
            self.check_quad(product(one, quad), quad)
            self.check_quad(product(quad, one), quad)
        for unit in (i, j, k):
            self.check_quad(product(unit, unit), (-1, 0, 0, 0))
        for first, second, third in ((i, j, k), (j, k, i), (k, i, j)):
            self.check_quad(product(first, second), third)
            self.check_quad(product(second, first), tuple(-number for number in third))

    def test_by_the_sentence(self):
        small = SMALL_QUADS[::3]
        for one in small + LARGE_QUADS:
            for other in small + LARGE_QUADS:
                self.check_quad(product(one, other), product_by_the_sentence(one, other))

    def test_sizes_of_products_are_products_of_sizes(self):
        for one in SMALL_QUADS[::7] + LARGE_QUADS:
            for other in SMALL_QUADS[::7] + LARGE_QUADS:
                self.assertEqual(size(product(one, other)), size(one) * size(other))

    def test_what_was_told_is_handed_in_again(self):
        quad = LARGE_QUADS[0]
        squared = product(quad, quad)
        self.check_quad(product(squared, quad), product_by_the_sentence(squared, quad))
        self.check_quad(product(squared, quad), product(quad, squared))


class MirroredTest(QuadsTest):
    def test_small_and_large(self):
        self.check_quad(mirrored((1, 2, 3, 4)), (1, -2, -3, -4))
        self.check_quad(mirrored((-1, -2, 3, -4)), (-1, 2, -3, 4))
        self.check_quad(mirrored((0, 0, 0, 0)), (0, 0, 0, 0))
        for a, b, c, d in SMALL_QUADS + LARGE_QUADS:
            self.check_quad(mirrored((a, b, c, d)), (a, -b, -c, -d))

    def test_the_product_with_the_mirrored_quad_is_the_size(self):
        for quad in SMALL_QUADS + LARGE_QUADS:
            self.check_quad(product(quad, mirrored(quad)), (size(quad), 0, 0, 0))


class SizeTest(unittest.TestCase):
    def test_small_and_large(self):
        self.assertEqual(size((0, 0, 0, 0)), 0)
        self.assertEqual(size((1, 0, 0, 0)), 1)
        self.assertEqual(size((1, 2, 3, 4)), 30)
        self.assertEqual(size((-1, 2, -3, 4)), 30)
        for a, b, c, d in SMALL_QUADS + LARGE_QUADS:
            found = size((a, b, c, d))
            self.assertIs(type(found), int)
            self.assertEqual(found, a * a + b * b + c * c + d * d)


class PlainTest(QuadsTest):
    def test_a_plain_quad_stays(self):
        for quad in ((1, 0, 0, 0), (1, -2, 3, -4), (0, 2, -3, 0), (0, 0, 0, 1), (6, 10, 15, 0), (LARGE, 1, 0, 0)):
            self.check_quad(plain(quad), quad)

    def test_a_divisor_above_one(self):
        self.check_quad(plain((2, 4, 6, 8)), (1, 2, 3, 4))
        self.check_quad(plain((12, -18, 30, 0)), (2, -3, 5, 0))
        self.check_quad(plain((5, 0, 0, 0)), (1, 0, 0, 0))
        self.check_quad(plain((LARGE, LARGE, -LARGE, 0)), (1, 1, -1, 0))

    def test_noughts_ahead(self):
        self.check_quad(plain((0, 4, -6, 0)), (0, 2, -3, 0))
        self.check_quad(plain((0, 0, 7, 14)), (0, 0, 1, 2))
        self.check_quad(plain((0, 0, 0, 9)), (0, 0, 0, 1))

    def test_the_first_number_below_nought(self):
        self.check_quad(plain((-1, 2, 3, 4)), (1, -2, -3, -4))
        self.check_quad(plain((-2, 0, 0, 0)), (1, 0, 0, 0))
        self.check_quad(plain((0, -3, 6, 0)), (0, 1, -2, 0))
        self.check_quad(plain((0, 0, -5, 3)), (0, 0, 5, -3))
        self.check_quad(plain((0, 0, 0, -LARGE)), (0, 0, 0, 1))
        self.check_quad(plain((-6, -10, -15, -30)), (6, 10, 15, 30))

    def test_all_small_and_large(self):
        for quad in SMALL_QUADS + LARGE_QUADS:
            if not any(quad):
                continue
            found = plain(quad)
            self.assertEqual(math.gcd(*found), 1, quad)
            self.assertGreater([number for number in found if number][0], 0, quad)
            first = [place for place in range(4) if quad[place]][0]
            times, rest = divmod(quad[first], found[first])
            self.assertEqual(rest, 0, quad)
            self.check_quad(tuple(times * number for number in found), quad)

    def test_multiples_have_the_same_plain_quad(self):
        for quad in ((1, -2, 3, -4), (0, 2, -3, 0), (0, 0, 0, 1)):
            for times in (1, -1, 2, -2, 15, -77, 10 ** 290, -(10 ** 290)):
                self.check_quad(plain(tuple(times * number for number in quad)), quad)

    def test_four_noughts_are_refused(self):
        with self.assertRaises(errors.NoQuad) as taken:
            plain((0, 0, 0, 0))
        self.assertIsInstance(taken.exception, errors.SpaceError)
        self.assertIsInstance(taken.exception, ValueError)
        others = (errors.NoStone, errors.NoGrid, errors.NoDial, errors.NoParts, errors.NoWay)
        others = others + (errors.NoName, errors.NoNumbers, errors.NoRow)
        self.assertNotIsInstance(taken.exception, others)


if __name__ == "__main__":
    unittest.main()
